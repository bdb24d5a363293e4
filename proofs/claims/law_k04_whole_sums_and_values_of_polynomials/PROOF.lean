import PyProof.Rows.All
import Wide.All
import OpenK.AllK
import Wide.FinOn
import HandS.ForMost
import HandS.ForExc
import HandS.EndBits
import HandS.EndTab
import HandS.Lambda
import HandS.ExcInit
import HandS.ExcValue
import HandS.ExcIs
import HandS.IsInst
import PyProof.ReprLen
import PyProof.StrLawsRepr
import HandS.TryMany
import HandS.ExcField
import HandS.CallLocal
import HandS.Gcd
import HandS.Wide
import KE.DataEq
import HandS.SlotsOwn
import HandS.WordsExc
import HandS.Zip
import HandS.Style
import PySem.Challenge.RW_nearcurves_k04_whole_sums_and_values_of
set_option Elab.async false
set_option linter.all false
set_option maxRecDepth 100000
set_option maxHeartbeats 4000000
/-! common: data with dicts, repr, a promise where no guard stands, the entry -/
namespace Vf
open PySem PySem.Spec PyProof.Rows L2

/-- a key as data -/
def kD : Key → PyData
  | .inl i => .int i
  | .inr x => .str x

mutual
/-- the value v, read in H, is the data d (dicts too) -/
inductive Dt (K : PySem.W.Frag) (H : Hp) : V → PyData → Prop
  | non : Dt K H .non .none
  | bl (b : Bool) : Dt K H (.bl b) (.bool b)
  | int (i : Int) : Dt K H (.int i) (.int i)
  | str (x : Str) : Dt K H (.str x) (.str x)
  | lst {a : Addr} {vs : List V} {ds : List PyData} : SqL K H a vs → Dts K H vs ds → Dt K H (.ref a) (.list ds)
  | tup {a : Addr} {vs : List V} {ds : List PyData} : SqT K H a vs → Dts K H vs ds → Dt K H (.ref a) (.tuple ds)
  | dct {a : Addr} {kvs : List (Key × V)} {ds : List PyData} : H a = some (.dK kvs) → Dts K H (kvs.map (·.2)) ds → Dt K H (.ref a) (.dict ((kvs.map fun p => kD p.1).zip ds))
inductive Dts (K : PySem.W.Frag) (H : Hp) : List V → List PyData → Prop
  | nil : Dts K H [] []
  | cons {v : V} {vs : List V} {d : PyData} {ds : List PyData} : Dt K H v d → Dts K H vs ds → Dts K H (v :: vs) (d :: ds)
end

theorem Dts.len {K : PySem.W.Frag} {H : Hp} : ∀ {vs : List V} {ds : List PyData}, Dts K H vs ds → vs.length = ds.length
  | _, _, .nil => rfl
  | _, _, .cons _ t => congrArg (· + 1) t.len
theorem Dts.at {K : PySem.W.Frag} {H : Hp} : ∀ {vs : List V} {ds : List PyData} {i : Nat} {v : V}, Dts K H vs ds → vs[i]? = some v → ∃ d, ds[i]? = some d ∧ Dt K H v d
  | _, _, _, _, .nil, e => by simp at e
  | _, _, 0, _, .cons h _, e => by simp at e; subst e; exact ⟨_, rfl, h⟩
  | _, _, i + 1, v, .cons _ t, e => by
    obtain ⟨d, h1, h2⟩ := t.at (i := i) (v := v) (by simpa using e)
    exact ⟨d, by simpa using h1, h2⟩
theorem Dts.app {K : PySem.W.Frag} {H : Hp} : ∀ {vs ws : List V} {ds es : List PyData}, Dts K H vs ds → Dts K H ws es → Dts K H (vs ++ ws) (ds ++ es)
  | _, _, _, _, .nil, h => h
  | _, _, _, _, .cons a t, h => .cons a (t.app h)
theorem Dts.take {K : PySem.W.Frag} {H : Hp} : ∀ {vs : List V} {ds : List PyData} (n : Nat), Dts K H vs ds → Dts K H (vs.take n) (ds.take n)
  | _, _, 0, _ => .nil
  | _, _, _ + 1, .nil => .nil
  | _, _, n + 1, .cons a t => .cons a (t.take n)

/-- all that is tracked in H stands in H' -/
theorem same_sqL {K : PySem.W.Frag} {H H' : Hp} {a : Addr} {xs : List V} (e : Same H H') (h : SqL K H a xs) : SqL K H' a xs := e.seq h
theorem same_sqT {K : PySem.W.Frag} {H H' : Hp} {a : Addr} {xs : List V} (e : Same H H') (h : SqT K H a xs) : SqT K H' a xs := by
  rcases h with (h | ⟨o, h⟩) | h
  · exact Or.inl (Or.inl (e a _ h))
  · exact Or.inl (Or.inr ⟨o, e a _ h⟩)
  · exact Or.inr h
mutual
theorem Dt.mono {K : PySem.W.Frag} {H H' : Hp} (e : Same H H') : ∀ {v : V} {d : PyData}, Dt K H v d → Dt K H' v d
  | _, _, .non => .non
  | _, _, .bl b => .bl b
  | _, _, .int i => .int i
  | _, _, .str x => .str x
  | _, _, .lst h1 h2 => .lst (same_sqL e h1) (Dts.mono e h2)
  | _, _, .tup h1 h2 => .tup (same_sqT e h1) (Dts.mono e h2)
  | _, _, .dct h1 h2 => .dct (e _ _ h1) (Dts.mono e h2)
theorem Dts.mono {K : PySem.W.Frag} {H H' : Hp} (e : Same H H') : ∀ {vs : List V} {ds : List PyData}, Dts K H vs ds → Dts K H' vs ds
  | _, _, .nil => .nil
  | _, _, .cons h1 h2 => .cons (Dt.mono e h1) (Dts.mono e h2)
end

/-- the dict of modules stands in the base -/
def M1 (b : Heap) : Prop := ∃ o es ep, b.get? sysModules = some o ∧ o.data = .dict es ep

theorem key_reads {h : Heap} {P : Program} {w : World} : ∀ {es : List DictEntry} {vs : List (Key × Value)} {ps : List (Key × V)}, PySem.Pairs (mixKind P w) es vs → KV ps vs →
    ReadsAll h (es.map (·.key)) (ps.map fun p => kD p.1) [] ∧ Vals (ps.map (·.2)) (es.map (·.val))
  | _, _, _, .nil, .nil => ⟨.nil, .nil⟩
  | _, _, _, .cons k1 k2 t, .cons r1 r2 => by
    obtain ⟨g1, g2⟩ := key_reads (h := h) t r2
    obtain ⟨e1, e2⟩ := r1
    refine ⟨?_, .cons (by have z := e2; rw [← k2] at z; exact z) g2⟩
    rw [← e1] at k1
    rename_i e kv es' kvs' p ps'
    have k3 : keyIs p.1 e.key = true := k1
    rcases keyIs_shape k3 with ⟨i, t, a1, a2⟩ | ⟨x, t, a1, a2⟩
    · have z : Reads h e.key (kD p.1) [] := by rw [a1, a2]; exact .int i t
      exact .cons (as := []) (bs := []) z g1
    · have z : Reads h e.key (kD p.1) [] := by rw [a1, a2]; exact .str x t
      exact .cons (as := []) (bs := []) z g1
theorem zip_fst {α β : Type} : ∀ {l : List α} {r : List β}, l.length = r.length → (l.zip r).map (·.1) = l
  | [], _, _ => by simp
  | a :: l, [], h => by simp at h
  | a :: l, b :: r, h => by
    rw [List.zip_cons_cons, List.map_cons, zip_fst (by simpa using h)]
theorem zip_snd {α β : Type} : ∀ {l : List α} {r : List β}, l.length = r.length → (l.zip r).map (·.2) = r
  | [], [], _ => rfl
  | [], b :: r, h => by simp at h
  | a :: l, [], h => by simp at h
  | a :: l, b :: r, h => by
    rw [List.zip_cons_cons, List.map_cons, zip_snd (by simpa using h)]

section
variable {X : Cx} {pins : List (Addr × Obj)} {σ : L2.St} {H : Hp} {s : Shared}
theorem not_sys (I : Inv X pins σ H s) (m : M1 X.base) {a : Addr} {o : Obj} {vs : Array Value} {n : Nat} (e : s.heap.get? a = some o) (d : o.data = .seq vs n) : sysModules ≠ a := fun z => by
  obtain ⟨o1, es, ep, e1, e2⟩ := m
  have q := I.bk _ _ e1
  rw [z, e] at q
  cases q
  rw [d] at e2
  cases e2
mutual
theorem Dt.reads (I : Inv X pins σ H s) (m : M1 X.base) : ∀ {v : V} {d : PyData} {u : Value}, Dt X.K H v d → RelV v u → ∃ as, Reads s.heap u d as ∧ sysModules ∉ as
  | _, _, u, .non, r => by
    obtain rfl : u = Value.none := r
    exact ⟨[], .none, by simp⟩
  | _, _, u, .bl b, r => by
    obtain rfl : u = Value.bool b := r
    exact ⟨[], .bool b, by simp⟩
  | _, _, u, .int i, r => by
    obtain ⟨t, rfl⟩ := r
    exact ⟨[], .int i t, by simp⟩
  | _, _, u, .str x, r => by
    obtain ⟨t, rfl⟩ := r
    exact ⟨[], .str x t, by simp⟩
  | _, _, u, .lst (a := a) h1 h2, r => by
    obtain rfl : u = Value.ref a := r
    obtain ⟨its, rv, ⟨o, n, e1, e2, e3, e4⟩, hz⟩ := I.list h1
    obtain ⟨as, ra, na⟩ := Dts.reads I m h2 rv
    refine ⟨_, .list e1 e2 e4 (by simpa using ra), fun z => ?_⟩
    rcases List.mem_cons.mp z with z | z
    · exact not_sys I m e1 e4 z
    · exact na z
  | _, _, u, .tup (a := a) h1 h2, r => by
    obtain rfl : u = Value.ref a := r
    obtain ⟨its, rv, ⟨o, e1, e2, n, e4⟩, hz⟩ := I.tuple h1
    obtain ⟨as, ra, na⟩ := Dts.reads I m h2 rv
    exact ⟨_, .tuple e1 e2 e4 (by simpa using ra), na⟩
  | _, _, u, .dct (a := a) (kvs := ps) (ds := ds) h1 h2, r => by
    obtain rfl : u = Value.ref a := r
    obtain ⟨hz, hs, vs, kv, o, es, ep, e1, ex, e2, hk, hp, hn⟩ := dk_of I.hok h1
    obtain ⟨g1, g2⟩ := key_reads (h := s.heap) hp kv
    obtain ⟨bs, rb, nb⟩ := Dts.reads I m h2 g2
    have hl : (ps.map fun p => kD p.1).length = ds.length := by
      have z := h2.len
      rw [List.length_map] at z ⊢
      exact z
    refine ⟨a :: [] ++ bs, .dict e1 ex.1 e2 (by rw [zip_fst hl]; exact g1) (by rw [zip_snd hl]; exact rb), fun z => ?_⟩
    rcases List.mem_cons.mp z with z | z
    · rw [z] at hs
      simp at hs
    · exact nb z
theorem Dts.reads (I : Inv X pins σ H s) (m : M1 X.base) : ∀ {vs : List V} {ds : List PyData} {us : List Value}, Dts X.K H vs ds → Vals vs us → ∃ as, ReadsAll s.heap us ds as ∧ sysModules ∉ as
  | _, _, _, .nil, .nil => ⟨[], .nil, by simp⟩
  | _, _, _, .cons h1 h2, .cons r1 r2 => by
    obtain ⟨as, q1, n1⟩ := Dt.reads I m h1 r1
    obtain ⟨bs, q2, n2⟩ := Dts.reads I m h2 r2
    refine ⟨as ++ bs, .cons q1 q2, fun z => ?_⟩
    rcases List.mem_append.mp z with z | z
    · exact n1 z
    · exact n2 z
end
end

/-- the sizes of the parts of a text of data -/
def small : PyData → Prop := fun d => d.showable = true ∧ d.depth ≤ 64 ∧ d.shown.length ≤ sizeLine
/-- repr of data, where no guard stands -/
theorem call_reprD {X : Cx} {k : Nat} (hg : X.A.guards = some []) (hr : Room k X.A) (m : M1 X.base) :
    CallR X (.builtin "repr") (fun xs H Q => ∃ v d, xs = [v] ∧ Dt X.K H v d ∧ small d ∧ Q (.str d.shown) H) := by
  intro pins s σ H xs us Q I r h
  obtain ⟨v, d, rfl, hd, ⟨hs, hz, hl⟩, q⟩ := h
  obtain ⟨u, rfl, ru⟩ := vals1 r
  obtain ⟨as, rd, na⟩ := Dt.reads I m hd ru
  cases rd with
  | none => exact PySem.P.repr_of_none ⟨.str _, H, I.tok _, ⟨_, rfl⟩, by simpa only [PyData.shown] using q⟩
  | bool b => exact PySem.P.repr_of_bool ⟨.str _, H, I.tok _, ⟨_, rfl⟩, by simpa only [PyData.shown] using q⟩
  | int i t => exact PySem.P.repr_of_int (by simpa [PyData.showable] using hs) ⟨.str _, H, I.tok _, ⟨_, rfl⟩, by simpa only [PyData.shown] using q⟩
  | str x t => exact PySem.P.repr_of_str ⟨.str _, H, I.tok _, ⟨_, rfl⟩, by simpa only [PyData.shown] using q⟩ (by simpa only [PyData.shown] using hl)
  | list a1 a2 a3 a4 => exact repr_of_reads' (.list a1 a2 a3 a4) hs (fun _ => na) hg (by have := hr.un; omega) (fun _ _ e => e) (fun h' u tk hk => ⟨.str _, H, I.kept hk, ⟨_, rfl⟩, q⟩) hl
  | tuple a1 a2 a3 a4 => exact repr_of_reads' (.tuple a1 a2 a3 a4) hs (fun _ => na) hg (by have := hr.un; omega) (fun _ _ e => e) (fun h' u tk hk => ⟨.str _, H, I.kept hk, ⟨_, rfl⟩, q⟩) hl
  | dict a1 a2 a3 a4 a5 => exact repr_of_reads' (.dict a1 a2 a3 a4 a5) hs (fun _ => na) hg (by have := hr.un; omega) (fun _ _ e => e) (fun h' u tk hk => ⟨.str _, H, I.kept hk, ⟨_, rfl⟩, q⟩) hl

/-! ### a promise that is asked only where no guard stands -/
structure FnG (P : Program) (w : World) (K : PySem.W.Frag) (mg : Str → Option Value) (base : Heap) (C : CXT) (k : Nat) (f : Addr) (fd : FuncData) (ps : List Str) (sp : Sp) : Prop where
  arity : ∀ vs H Q E, sp vs H Q E → vs.length = ps.length
  go : ∀ {A : Around} {out : List Env} {s : Shared} {H : Hp} {args : Args} {us : List Value} {vs : List V} {Q : VK} {E : XK}, A.guards = some [] → Room k A → Env0 P w K mg base A out s H → BindsTo s fd args (ps.zip us) →
    Vals vs us → sp vs H Q E → codeAny (model P w) A (.call (.ref f) args) (CR C out P w H s Q E) s
theorem fnG_of {C : CXT} {P : Program} {w : World} {K : PySem.W.Frag} {mg : Str → Option Value} {base : Heap} {x qual : Str} {st : Stmt} {f : Addr} {fd : FuncData} {N ps : List Str} {k : Nat} {sp : Sp} (F : Fun K x qual st f fd) (S : FnScope N ps (defScope st))
    (ar : ∀ vs H Q E, sp vs H Q E → vs.length = ps.length)
    (body : ∀ (cdv : Value) (A : Around) (out : List Env) (s : Shared) (H : Hp) (vs : List V) (Q : VK) (E : XK), A.guards = some [] → Room k (A.deeper (envOfC qual (defScope st) s.heap.objs.size f cdv)) → PySem.W.codeIn K cdv qual = true → sp vs H Q E →
      ∃ t, PSs (cxOf C P w K mg base N qual (defScope st) f cdv A out s H E) (defBody st) t ∧ t { nx := fun _ H' => Q .non H', rt := Q } (start N vs) H) : FnG P w K mg base C (k + 1) f fd ps sp := by
  obtain ⟨oc, od, kV, doc, pm, an, cdv, ct, osl, e, lk, hcd⟩ := F.ex
  subst e
  refine ⟨ar, fun {A out s H args us vs Q E} hgu hr e0 hb r h => ?_⟩
  exact LamX.run_ofS lk hcd S hr e0 hb r (ar _ _ _ _ h) fun hr' => body cdv A out s H vs Q E hgu hr' hcd h

theorem fnG_of0 {P : Program} {w : World} {K : PySem.W.Frag} {mg : Str → Option Value} {base : Heap} {x qual : Str} {st : Stmt} {f : Addr} {fd : FuncData} {N ps : List Str} {k : Nat} {sp : Sp} (F : Fun K x qual st f fd) (S : FnScope N ps (defScope st))
    (ar : ∀ vs H Q E, sp vs H Q E → vs.length = ps.length)
    (body : ∀ (cdv : Value) (A : Around) (out : List Env) (s : Shared) (H : Hp) (vs : List V) (Q : VK) (E : XK), A.guards = some [] → Room k (A.deeper (envOfC qual (defScope st) s.heap.objs.size f cdv)) → PySem.W.codeIn K cdv qual = true → sp vs H Q E →
      ∃ t, PSs (cxOf CX0 P w K mg base N qual (defScope st) f cdv A out s H E).nox (defBody st) t ∧ t { nx := fun _ H' => Q .non H', rt := Q } (start N vs) H) : FnG P w K mg base CX0 (k + 1) f fd ps sp :=
  fnG_of F S ar fun cdv A out s H vs Q E h1 h2 h3 h4 => by
    obtain ⟨t, z, q⟩ := body cdv A out s H vs Q E h1 h2 h3 h4
    exact ⟨t, z.nox, q⟩

/-! ### the entry -/
/-- what is tracked where the law is called: the script, the tables of code objects -/
structure Fit (P : Program) (w : World) (K : PySem.W.Frag) (h : Heap) (cs : List (Addr × Addr)) (a : Addr) (ns : List Int) (H : Hp) : Prop where
  tabs : ∀ p ∈ cs, H p.2 = some (.tbl #[])
  scr : SqL K H a (ns.map V.int)
  held : HOk P w H h
  only : ∀ b u, H b = some u → (b = a ∧ K.lookup a = none ∧ ∃ o xs, u = .frz o (.lst xs)) ∨ ((∃ p ∈ cs, b = p.2) ∧ u = .tbl #[])
def isTab (cs : List (Addr × Addr)) (b : Addr) : Bool := cs.any fun p => p.2 == b
theorem isTab_mem {cs : List (Addr × Addr)} {b : Addr} (h : isTab cs b = true) : ∃ p ∈ cs, b = p.2 := by
  obtain ⟨p, hp, e⟩ := List.any_eq_true.mp h
  exact ⟨p, hp, (beq_iff_eq.mp e).symm⟩
theorem isTab_of {cs : List (Addr × Addr)} {p : Addr × Addr} (h : p ∈ cs) : isTab cs p.2 = true := List.any_eq_true.mpr ⟨p, h, beq_self_eq_true _⟩
/-- the heap as it is told at the entry -/
def entryH (t : Bool) (o : Obj) (ns : List Int) (cs : List (Addr × Addr)) (a : Addr) : Hp := fun b =>
  if isTab cs b = true then some (.tbl #[]) else if t = true ∧ b = a then some (.frz o (.lst (ns.map V.int))) else none
theorem fit_ex {P : Program} {w : World} {K : PySem.W.Frag} {h : Heap} {cs : List (Addr × Addr)} {a : Addr} {vs : List Value} {ns : List Int} (hK : K.In h) (hT : ∀ p ∈ cs, h.get? p.2 = some { cls := .none, data := .fields #[] })
    (ha : h.get? a = some { cls := .type "list", data := .seq vs.toArray }) (hi : IntsAre vs ns) (hl : ns.length ≤ sizeLine) : ∃ H, Fit P w K h cs a ns H := by
  have rv := vals_ints hi
  have nt : isTab cs a = false := by
    cases e : isTab cs a with
    | false => rfl
    | true =>
      obtain ⟨p, hp, e2⟩ := isTab_mem e
      have q := hT p hp
      rw [← e2, ha] at q
      cases q
  have hl2 : (ns.map V.int).length ≤ sizeLine := by rw [List.length_map]; exact hl
  cases hk : K.lookup a with
  | some o =>
    have q := hK a o hk
    rw [ha] at q
    have q2 := Option.some.inj q
    refine ⟨entryH false { cls := .type "list", data := .seq vs.toArray } ns cs a, fun p hp => if_pos (isTab_of hp), ?_, fun b u e => ?_, fun b u e => ?_⟩
    · refine Or.inr ⟨o, vs.toArray, 0, hk, by rw [← q2], by rw [← q2], by rw [← q2], ?_, by simpa using rv⟩
      rw [List.size_toArray, hi.length]
      exact hl
    all_goals
      unfold entryH at e
      by_cases t : isTab cs b = true
      · rw [if_pos t] at e
        obtain ⟨p, hp, e2⟩ := isTab_mem t
        cases e
        first
          | (rw [e2]; exact hT p hp)
          | exact Or.inr ⟨⟨p, hp, e2⟩, rfl⟩
      · rw [if_neg t, if_neg (fun z => Bool.false_ne_true z.1)] at e
        cases e
  | none =>
    refine ⟨entryH true { cls := .type "list", data := .seq vs.toArray } ns cs a, fun p hp => if_pos (isTab_of hp), ?_, fun b u e => ?_, fun b u e => ?_⟩
    · refine Or.inl (Or.inr ⟨{ cls := .type "list", data := .seq vs.toArray }, ?_⟩)
      unfold entryH
      rw [if_neg (by rw [nt]; decide), if_pos ⟨rfl, rfl⟩]
    all_goals
      unfold entryH at e
      by_cases t : isTab cs b = true
      · rw [if_pos t] at e
        obtain ⟨p, hp, e2⟩ := isTab_mem t
        cases e
        first
          | (rw [e2]; exact hT p hp)
          | exact Or.inr ⟨⟨p, hp, e2⟩, rfl⟩
      · rw [if_neg t] at e
        by_cases ba : b = a
        · rw [if_pos ⟨rfl, ba⟩] at e
          cases e
          first
            | (rw [ba]; exact ⟨ha, hl2, vs, _, rv, ha⟩)
            | exact Or.inl ⟨ba, hk, _, _, rfl⟩
        · rw [if_neg (fun z => ba z.2)] at e
          cases e
/-- the law's call, from its promise where no guard stands -/
theorem law_enter {P : Program} {w : World} {K : PySem.W.Frag} {mg mb : Str → Option Value} {C : CXT} {k : Nat} {fa a : Addr} {cs : List (Addr × Addr)} {fd : FuncData} {x : Str} {sp : Sp} {s1 : Shared} {vs : List Value} {ns : List Int}
    (hK : K.In s1.heap) (hG : s1.heap.Ns mainGlobals mg) (hB : s1.heap.Ns builtinsNs mb) (hBB : ∀ x : Str, x ≠ "__name__" → mb x = bootBuiltins x) (hL : s1.heap.NoLimit) (hg : s1.gens = #[])
    (hT : ∀ p ∈ cs, s1.heap.get? p.2 = some { cls := .none, data := .fields #[] }) (nT : ∀ p ∈ cs, K.lookup p.2 = none) (hC : ∀ p ∈ cs, PySem.W.CodeHd s1.heap p.1 p.2)
    (hM : ∃ (bm : Addr) (ob : Obj), mg "__builtins__" = some (.ref bm) ∧ bm ≠ builtinsNs ∧ s1.heap.get? bm = some ob ∧ ob.cls = .type "module" ∧ ob.dict = some builtinsNs ∧ ob.data = .plain)
    (hs : M1 s1.heap) (ha : s1.heap.get? a = some { cls := .type "list", data := .seq vs.toArray }) (hi : IntsAre vs ns) (hl : ns.length ≤ sizeLine) (hr : Room k callerA)
    (F : ∀ b : Heap, K.In b → b.Ns mainGlobals mg → M1 b → (∀ p ∈ cs, LamX.TabB b mg p.1 p.2) → FnG P w K mg b C k fa fd [x] sp) (bind : ∀ (s : Shared) (u : Value), BindsTo s fd ⟨[u], []⟩ [(x, u)])
    (hsp : ∀ H : Hp, (∀ p ∈ cs, H p.2 = some (.tbl #[])) → SqL K H a (ns.map V.int) → sp [.ref a] H (fun v _ => v = .bl true) E0)
    (hE : ∀ H e s', C [] H s1 E0 e s' → False) :
    codeAny (model P w) callerA (.call (.ref fa) ⟨[.ref a], []⟩) (fun r s' => r = .ok (.ret (.bool true)) ∧ OldK s1.heap s'.heap ∧ s'.os = s1.os ∧ AllBare s'.gens) s1 := by
  obtain ⟨H, ft⟩ := fit_ex (P := P) (w := w) hK hT ha hi hl
  -- an object of neither kind is not tracked
  have un : ∀ {b : Addr} {o : Obj}, s1.heap.get? b = some o → (∀ us n, o.data ≠ .seq us n) → o.data ≠ .fields #[] → H b = none := by
    intro b o e n1 n2
    cases q : H b with
    | none => rfl
    | some u =>
      exfalso
      rcases ft.only b u q with ⟨z, _⟩ | ⟨⟨p, hp, z⟩, _⟩
      · rw [z, ha] at e
        cases e
        exact n1 _ _ rfl
      · rw [z, hT p hp] at e
        cases e
        exact n2 rfl
  have inB : ∀ {b : Addr} {o : Obj}, s1.heap.get? b = some o → (∀ us n, o.data ≠ .seq us n) → o.data ≠ .fields #[] → (hidT s1.heap H).get? b = some o := fun e n1 n2 => hidT_get e (un e n1 n2)
  have nsB : ∀ {b : Addr} {m : Str → Option Value}, s1.heap.Ns b m → (hidT s1.heap H).Ns b m := by
    intro b m ⟨o, es, ep, e, d, r⟩
    refine ⟨o, es, ep, inB e (fun us n z => ?_) (fun z => ?_), d, r⟩ <;> rw [d] at z <;> cases z
  have kB : K.In (hidT s1.heap H) := fun b o e => by
    refine hidT_get (hK b o e) ?_
    cases q : H b with
    | none => rfl
    | some u =>
      exfalso
      rcases ft.only b u q with ⟨z, n, _⟩ | ⟨⟨p, hp, z⟩, _⟩
      · rw [z, n] at e
        cases e
      · rw [z, nT p hp] at e
        cases e
  have mB : M1 (hidT s1.heap H) := by
    obtain ⟨o, es, ep, e, d⟩ := hs
    refine ⟨o, es, ep, inB e (fun us n z => ?_) (fun z => ?_), d⟩ <;> rw [d] at z <;> cases z
  have tB : ∀ p ∈ cs, LamX.TabB (hidT s1.heap H) mg p.1 p.2 := fun p hp => by
    obtain ⟨o, us, file, tf, flags, tg, inF, text, tt, c1, c2, c3, c4, c5, c6, c7, c8, c9, c10⟩ := hC p hp
    obtain ⟨bm, ob, d1, d2, d3, d4, d5, d6⟩ := hM
    have tp := hT p hp
    refine ⟨⟨o, us, file, tf, flags, tg, inF, text, tt, inB c1 (fun us n z => ?_) (fun z => ?_), c2, c3, c4, c5, c6, c7, c8, c9, c10⟩, ⟨bm, ob, d1, d2, fun z => ?_, fun z => ?_, inB d3 (fun us n z => ?_) (fun z => ?_), d4, d5, d6⟩, fun z => ?_⟩
    · rw [c3] at z
      cases z
    · rw [c3] at z
      cases z
      simp at c4
    · obtain ⟨o2, es, ep, e, d, _⟩ := hG
      rw [z, e] at d3
      cases d3
      rw [d] at d6
      cases d6
    · rw [z, tp] at d3
      cases d3
      cases d6
    · rw [d6] at z
      cases z
    · rw [d6] at z
      cases z
    · obtain ⟨o2, es, ep, e, d, _⟩ := hG
      rw [z, tp] at e
      cases e
      cases d
  have e0 : Env0 P w K mg (hidT s1.heap H) callerA [] s1 H := {
    frames := rfl
    mod := ⟨kB, nsB hG, ⟨mb, nsB hB, hBB⟩, let ⟨mc, z1, z2⟩ := hL; ⟨mc, nsB z1, z2⟩⟩
    bs := fun b o e => of_hidT e
    bsz := Nat.le_of_eq (hidT_size _ _)
    funs := trivial
    frf := fun b hb => nomatch (show b ∈ ([] : List Addr) from hb)
    hok := ft.held
    bare := .of_eq hg }
  refine codeAny_mono ((F _ kB (nsB hG) mB tB).go (us := [.ref a]) (vs := [.ref a]) rfl hr e0 (bind s1 _) (.cons rfl .nil) (hsp H ft.tabs ft.scr)) fun r s' h => ?_
  match r, h with
  | .error e, h => exact (hE H e s' h).elim
  | .ok .next, h => exact h.elim
  | .ok .brk, h => exact h.elim
  | .ok .cont, h => exact h.elim
  | .ok (.ret u), ⟨v, H', os, bare, U, held', rv, ev⟩ =>
    have ev2 : v = .bl true := ev
    rw [ev2] at rv
    obtain rfl : u = Value.bool true := rv
    have tab' : ∀ p ∈ cs, ∃ more : Array Value, s'.heap.get? p.2 = some { cls := .none, data := .fields more } := fun p hp => by
      obtain ⟨more, z⟩ := U.tbls p.2 #[] (ft.tabs p hp)
      exact ⟨_, held' _ _ z⟩
    have old : ∀ b o, isTab cs b = false → s1.heap.get? b = some o → s'.heap.get? b = some o := fun b o nb e => by
      cases q : H b with
      | none => exact U.keep b o e q (fun z => nomatch (show b ∈ ([] : List Addr) from z)) (fun z => nomatch z)
      | some y =>
        rcases ft.only b y q with ⟨_, _, ob, xs, z⟩ | ⟨⟨p, hp, z⟩, _⟩
        · rw [z] at q
          have g1 := (ft.held b _ q).1
          have g2 := (held' b _ (U.frzs b ob _ q)).1
          rw [e] at g1
          cases g1
          exact g2
        · rw [z, isTab_of hp] at nb
          cases nb
    refine ⟨rfl, ⟨fun b o e => ?_, fun b o e => ?_⟩, os, bare⟩
    · cases nb : isTab cs b with
      | false => exact .inl (old b o nb e)
      | true =>
        obtain ⟨p, hp, z⟩ := isTab_mem nb
        obtain ⟨more, hm⟩ := tab' p hp
        rw [z] at e ⊢
        rw [hT p hp] at e
        cases e
        exact .inr (.inl ⟨((hC p hp).tab (hT p hp)).isCodeTable, rfl, #[], more, rfl, by rw [Array.empty_append]; exact hm⟩)
    · cases nb : isTab cs b with
      | false => exact ⟨o, old b o nb e⟩
      | true =>
        obtain ⟨p, hp, z⟩ := isTab_mem nb
        obtain ⟨more, hm⟩ := tab' p hp
        rw [z]
        exact ⟨_, hm⟩
end Vf

set_option maxRecDepth 100000
set_option maxHeartbeats 4000000
/-! exceptions held as values -/
namespace Vf
open PySem PySem.Spec PyProof.Rows L2
section
open PySem.W PySem.Calls
variable {prog : Program} {w : World} {K : Frag} {x D : Addr} {ox : Obj} {od : Option Obj}
theorem bound_any {C : Addr} {nm : Str} {a g : Value} (c : (clsIn K C).isSome = true) (fa : findIn K (.ref C) nm = some (some a)) (fg : specialIn K a "__get__" = some (some g)) (ft : takesIn K a = some true) : findObj K C od nm = some (.bind g a) := by
  obtain ⟨cd, c⟩ := Option.isSome_iff_exists.mp c
  simp only [findObj, c, fa, fg, ft, Option.bind_some]
/-- what isinstance asks of the class of an exception -/
structure XC (K : Frag) (D : Addr) : Prop where
  ga : findIn K (.ref D) "__getattribute__" = some (some (.builtin "BaseException.__getattribute__"))
  gg : findIn K (.ref D) "__getattr__" = some none
  sb : subIn K (.ref D) (.type "BaseException") = some true
  hd : hasDictIn K D = true
  ca : findIn K (.ref D) "__class__" = some (some (.builtin "object.__class__"))
  cn : specialIn K (.builtin "object.__class__") "__get__" = some (some (.builtin "getset_descriptor.__get__"))
  ct : takesIn K (.builtin "object.__class__") = some true
  mo : mroIn K D (.type "object") = some true
theorem XC.cls {K : Frag} {D : Addr} (T : XC K D) : (clsIn K D).isSome = true := by
  obtain ⟨cd, e, _⟩ := any_some T.hd
  simp only [e, Option.isSome_some]
/-- its class, asked of the exception itself, whatever its dict holds -/
theorem own_class {A : Around} {E : Value → Shared → Prop} {s : Shared} {Q : Option Value → Shared → Prop} (T : XC K D) (X : K.In s.heap) (I : InstAt s.heap x ox D od) (q : Q (some (.ref D)) { s with toks := s.toks + 1 }) :
    wpAny (model prog w) A (getAttr? (.ref x) "__class__") Q E s := by
  obtain ⟨hp, gs, dr, tk, os⟩ := s
  have l0 := I.type (M := model prog w)
  have l1 := looks_findIn (M := model prog w) X T.ga
  have l2 := looks_findIn (M := model prog w) X T.gg
  have l3 := looks_find (M := model prog w) X I (bound_any (od := od) T.cls T.ca T.cn T.ct)
  have y1 : (onTheHeap (Value.ref D) && Value.builtin "BaseException.__getattribute__" == Value.builtin "object.__getattribute__") = false := by
    rw [show (Value.builtin "BaseException.__getattribute__" == Value.builtin "object.__getattribute__") = false from by decide +kernel, Bool.and_false]
  unfold getAttr?
  unfold getAttrBy?
  unfold getAttrBy
  refine wpAny_bind (wpAny_mkText (wpAny_bind ?_))
  refine wpAny_attempt (wpAny_holding (wpAny_bind (l0.at ?_)))
  refine wpAny_bind (l1.at ?_)
  show wpAny _ _ (if (onTheHeap (Value.ref D) && Value.builtin "BaseException.__getattribute__" == Value.builtin "object.__getattribute__") = true then _ else _) _ _ _
  rw [y1]
  rw [if_neg Bool.false_ne_true]
  unfold getAttrByItsOwn
  unfold hookBefore
  refine wpAny_bind ?_
  rw [if_pos (show onTheHeap (Value.ref D) = true from rfl)]
  refine l2.at (wpAny_bind (wpAny_attempt (wpAny_holding ?_)))
  unfold callGetattribute
  rw [show (false && onTheHeap (Value.builtin "BaseException.__getattribute__")) = false from rfl, if_neg Bool.false_ne_true]
  unfold boundAndCalled
  rw [PySem.F.excAttr_ValueError.ga.bind (.ref x)]
  refine wpAny_bind (wpAny_pure ?_)
  show wpAny _ _ (call (.builtin "BaseException.__getattribute__") [.ref x, .str "__class__" tk]) _ _ _
  refine wpAny_call (codeAny_call_builtin PySem.F.excAttr_ValueError.ga.plain PySem.F.entry_bexc_ga ?_)
  have sub : Looks (model prog w) hp (isInstance (.ref x) (.type "BaseException")) true := l0.andThen (looks_subIn X T.sb)
  refine @check_slot (model prog w) _ _ ⟨hp, gs, dr, tk + 1, os⟩ "BaseException.__getattribute__" "BaseException" "__getattribute__" (.ref x) [.str "__class__" tk] [] _ (by decide +kernel) (by decide +kernel) sub
    (PySem.F.args_bexc_ga (.ref x) (.str "__class__" tk)) ?_
  unfold Builtin.«object.__getattribute__»
  refine wpAny_bind ?_
  refine wpAny_of_eq (a := ((Value.ref x : Value), [Value.str "__class__" tk])) (by first | rfl | (simp only [slotArgs]; rfl)) ?_
  refine wpAny_bind (wpAny_pure (wpAny_bind (l0.at ?_)))
  refine wpAny_bind (l3.at ?_)
  show wpAny _ _ (holding [Value.builtin "object.__class__"] (call (.builtin "getset_descriptor.__get__") [.builtin "object.__class__", .ref x, .ref D]) >>= ret) _ _ _
  refine wpAny_bind (wpAny_holding (wpAny_call (class_get (s := ⟨hp, gs, dr, tk + 1, os⟩) (od := od) X I T.mo ?_)))
  refine wpAny_pure ?_
  show wpAny _ _ (handedOut (.ref D)) _ _ _
  rw [handedOut_of (v := .ref D) rfl]
  first
    | exact wpAny_pure (wpAny_pure q)
    | exact wpAny_pure q
    | exact wpAny_pure (wpAny_bind (wpAny_pure (wpAny_pure q)))
theorem kit_own (T : XC K D) : KitX K (.ref x) (.ref D) (fun h => InstAt h x ox D od) := by
  obtain ⟨cd, e, _⟩ := any_some T.hd
  have at_ : ∃ c d sl, K.lookup D = some ⟨c, d, .cls cd, sl⟩ := by
    unfold clsIn at e
    split at e
    · rename_i ho
      cases e
      exact ⟨_, _, _, ho⟩
    · cases e
  obtain ⟨c, d, sl, ho⟩ := at_
  refine ⟨fun _ _ _ I => I.type, fun _ _ X _ => ?_, fun h tp dd its n sl' X ht => ?_, fun X I q => own_class T X I q⟩
  · intro A Q E s k q
    unfold isType
    unfold loadHead
    exact wpAny_bind (wpAny_loadPart (k _ _ (X _ _ ho)) (wpAny_pure q))
  · cases z : (Value.ref D == Value.ref tp) with
    | false => rfl
    | true =>
      have e2 : D = tp := Value.ref.inj (beq_iff_eq.mp z)
      have z2 := X _ _ ho
      rw [e2, ht] at z2
      cases z2
end

/-- an exception of the class at C stands at a as a value; what it keeps -/
def XAt (H : Hp) (a C : Addr) : Option (List (Str × V)) → Prop
  | none => H a = some (ExO (.ref C) a)
  | some fs => ∃ d, H a = some (exo a C (some d)) ∧ H d = some (exd d fs)
theorem XAt.same {H H' : Hp} {a C : Addr} {o : Option (List (Str × V))} (s : Same H H') (h : XAt H a C o) : XAt H' a C o := by
  cases o with
  | none => exact s _ _ h
  | some fs =>
    obtain ⟨d, h1, h2⟩ := h
    exact ⟨d, s _ _ h1, s _ _ h2⟩
section
variable {X : Cx} {pins : List (Addr × Obj)} {σ : L2.St} {H : Hp} {s : Shared}
theorem XAt.inst {a C : Addr} {o : Option (List (Str × V))} (I : Inv X pins σ H s) (h : XAt H a C o) : ∃ oe od, PySem.W.InstAt s.heap a oe C od := by
  cases o with
  | none =>
    obtain ⟨⟨oe, vs, e1, e2, e3, _⟩, _⟩ := I.hok a _ h
    exact ⟨oe, none, e1, e2.1, by unfold PySem.W.notCls; rw [e3] <;> rfl, by rw [e2.2]; trivial⟩
  | some fs =>
    obtain ⟨d, h1, h2⟩ := h
    obtain ⟨t1, e1⟩ := exo_at I.hok h1
    obtain ⟨mA, hn, _⟩ := exd_at I.hok h2
    obtain ⟨od, eo, _⟩ := lookIn_ns hn
    exact ⟨_, some od, e1, rfl, rfl, eo⟩
/-- isinstance of an exception that is held as a value -/
theorem call_isiX : CallR X (.builtin "isinstance") (fun xs H Q => ∃ (a C : Addr) (o : Option (List (Str × V))) (c : V) (u : Value) (b : Bool), xs = [.ref a, c] ∧ ClsV c u ∧ XAt H a C o ∧ XC X.K C ∧ PySem.W.kitOne X.K (.ref C) u = some b ∧ Q (.bl b) H) := by
  intro pins s σ H xs us Q I r h
  obtain ⟨a, C, o, c, u, b, rfl, k, x, T, e, q⟩ := h
  obtain ⟨u1, u2, rfl, r1, r2⟩ := vals2 r
  have e2 := k.eq r2
  subst e2
  obtain rfl : u1 = Value.ref a := r1
  obtain ⟨oe, od, J⟩ := x.inst I
  exact PySem.W.kia_one (kit_own T) I.kIn J e (fun z => nomatch z) fun tk => ⟨.bl b, H, I.tok tk, rfl, q⟩
/-- e.f of such an exception -/
def tXv (K : PySem.W.Frag) (f : Str) (te : TE) : TE := fun σ H Q => te σ H fun y H1 => ∃ (a C : Addr) (fs : List (Str × V)) (v : V), y = .ref a ∧ XAt H1 a C (some fs) ∧ XC K C ∧ PySem.W.findIn K (.ref C) f = some none ∧ fs.lookup f = some v ∧ Q v H1
theorem pe_xv {e : Expr} {te : TE} {pos : Pos} {n : Str} (he : PE X e te) (hb : attributeBase e n X.env (eval e X.env) = eval e X.env := by rfl) : PE X (.Attribute e n pos) (tXv X.K n te) := by
  refine ⟨fun pins s σ H Q I h => attr_of hb (thn (he.run pins s σ H _ I h) fun u s1 ⟨y, H1, I1, ry, a, C, fs, v, ey, xa, T, hno, hl, q⟩ => ?_)⟩
  subst ey
  obtain rfl : u = Value.ref a := ry
  obtain ⟨d, h1, h2⟩ := xa
  obtain ⟨t1, e1⟩ := exo_at I1.hok h1
  obtain ⟨mA, hn, rel⟩ := exd_at I1.hok h2
  obtain ⟨od, eo, lk⟩ := lookIn_ns hn
  obtain ⟨v', hu, ru⟩ := RelO.some_of (v := v) (o := mA n) (by rw [← hl]; exact rel n)
  exact HandSPX.exc_get (ox := { cls := .ref C, dict := some d, data := .fields #[.ref t1, .none, .none, .none, .bool false, .none] }) (od := some od) I1.kIn ⟨e1, rfl, rfl, eo⟩ T.ga T.gg T.sb (PySem.W.findObj_own T.hd hno rfl (by rw [lk, hu])) (handed_of ru) ⟨v, H1, I1.tok _, ru, q⟩
/-- C(e, ..), as a value, its own __init__ keeping sp -/
def tMkV (C : Addr) (sp : Sp) (ta : TA) : TE := fun σ H Q => ta σ H fun vs H1 => vs.length ≤ 1000 ∧ ∀ a, H1 a = none → sp (.ref a :: vs) (upd H1 a (exo a C none)) (fun v H2 => v = .non ∧ Q (.ref a) H2) E0
theorem pe_mkv {x : Str} {C fI : Addr} {k : Nat} {fd : FuncData} {ps : List Str} {sp : Sp} {e : Expr} {es : List Expr} {ta : TA} {p pos : Pos} (T : OexC X.K C) (iC : PySem.W.findIn X.K (.ref C) "__init__" = some (some (.ref fI))) (tI : PySem.W.typeIn X.K (.ref fI) = some (.type "function"))
    (F : FnOk X.prog X.w X.K X.mg X.base CX0 k fI fd ps sp) (hr : Room (k + 1) X.A) (hb : Binds X.K fd ps []) (hg : Gl X x) (hm : X.mg x = some (.ref C)) (ha : PA X (e :: es) ta)
    (hdb : (x == ("__debug__" : Str)) = false := by decide) (he : starEach (e :: es) X.env = (false, eval e X.env) :: starEach es X.env := by rfl) (hpl : (backTo pos (starEach es X.env)).any (·.1) = false := by rfl) :
    PE X (.Call (.Name x p) (e :: es) [] pos) (tMkV C sp ta) := by
  refine ⟨fun pins s σ H Q I h => wpAny_Call_Name_kw (ld_glob I hg hm ?_ hdb)⟩
  obtain ⟨nm, q, N, bs, bm, sn, sub, ab, col, dd, k0, k1, k2, k3, k5, hC, hbm⟩ := T.cls
  refine PySem.W.callWith_K (h₀ := X.base) I.ok.mod.kin T.kC (thn (ha.run pos pins s σ H _ I h) fun us s1 ⟨vs, H1, I1, rv, hz, g⟩ => ⟨I1.kIn, ?_⟩) he hpl
  show wpAny _ _ (call (.ref C) us) _ _ _
  obtain ⟨hp, gs, dr, tk, os⟩ := s1
  have new : H1 (hp.objs.size + 1) = none := I1.hok.fresh (Nat.le_succ _)
  have g := g (hp.objs.size + 1) new
  let h2 := (hp.push (PySem.W.kdv_tup us)).push (PySem.HandSPX.excO C hp.objs.size)
  have at2 : h2.get? (hp.objs.size + 1) = some (PySem.HandSPX.excO C hp.objs.size) := by
    show ((hp.push (PySem.W.kdv_tup us)).push (PySem.HandSPX.excO C hp.objs.size)).get? (hp.objs.size + 1) = _
    heap_get
  have I2 : Inv X pins σ (upd H1 (hp.objs.size + 1) (exo (hp.objs.size + 1) C none)) ⟨h2, gs, dr, tk, os⟩ :=
    I1.laid (t' := tk) (a := hp.objs.size + 1) (h' := h2) (fun b o z => Heap.get?_push_of_some _ (Heap.get?_push_of_some _ z)) (Nat.le_succ _) (exo_ok at2)
  have r2 : Vals (V.ref (hp.objs.size + 1) :: vs) (Value.ref (hp.objs.size + 1) :: us) := .cons rfl rv
  have ln : (Value.ref (hp.objs.size + 1) :: us ++ []).length = ps.length := by
    rw [List.append_nil, ← r2.length]
    exact F.len _ _ _ _ g
  have hus : us.length ≤ sizeLine := by
    rw [← Paired.length rv, sizeLine_eq]
    omega
  have bd := hb ⟨h2, gs, dr, tk, os⟩ (Value.ref (hp.objs.size + 1) :: us) I2.kIn ln
  rw [List.append_nil] at bd
  refine wpAny_call (PySem.HandSPX.call_own PySem.F.excBase_ValueError (fun Y => PySem.HandSPX.refsVE_contains Y bm hbm) (I1.kIn _ _ hC) (PySem.W.looks_findIn I1.kIn iC) (fun self => PySem.W.bind_fn I1.kIn self tI) hus ?_)
  refine codeAny_mono (F.run _ X.stack _ _ _ _ _ _ E0 (hr.make C us []) (I2.env0.make C us []) bd r2 g) fun r s' z => ?_
  match r, z with
  | .error er, z => exact z.elim
  | .ok .next, z => exact z.elim
  | .ok .brk, z => exact z.elim
  | .ok .cont, z => exact z.elim
  | .ok (.ret u), ⟨v, H2, o2, b2, un2, ok2, ru, ev, q2⟩ =>
    subst ev
    refine ⟨ru, ?_⟩
    exact I2.after ⟨.ref (hp.objs.size + 1), H2, o2, b2, un2, ok2, rfl, q2⟩
/-- C(), a class without an __init__ of its own -/
theorem pe_mk0 {x : Str} {C : Addr} {p pos : Pos} (q : PySem.W.excIn X.K C [.type "ValueError", .type "Exception", .type "BaseException", .type "object"] "ValueError.__new__" = true) (kC : PySem.W.keepIn X.K (.ref C) = true) (hg : Gl X x) (hm : X.mg x = some (.ref C))
    (hdb : (x == ("__debug__" : Str)) = false := by decide) : PE X (.Call (.Name x p) [] [] pos) (fun _ H Q => ∀ a, H a = none → Q (.ref a) (upd H a (ExO (.ref C) a))) := by
  refine ⟨fun pins s σ H Q I h => wpAny_Call_Name_kw (ld_glob I hg hm (PySem.W.callWith_K0 I.kIn kC ?_) hdb)⟩
  obtain ⟨hp, gs, dr, tk, os⟩ := s
  obtain ⟨bm, N, nm, qn, bs, hdct, sn, sub, ab, col, dd, k0, k1, k2, k3, k5, mN, hC, hN, hni, T⟩ := exc_obj I.kIn q
  refine wpAny_call_exc_subT PySem.F.excBase_ValueError T hC hN hni (fun h' a M => ?_) (by rw [sizeLine_eq]; decide)
  have n : H a = none := I.hok.gone M.new
  obtain ⟨t, e, _, _⟩ := M.there
  exact ⟨.ref a, upd H a (ExO (.ref C) a), I.laidN M.keeps M.new n (exO_ok e ⟨rfl, rfl⟩ rfl rfl rfl (by show 4 < 6; decide)), rfl, h a n⟩
end
end Vf
namespace Vf
open PySem PySem.Spec PyProof.Rows L2
def xcB (K : PySem.W.Frag) (D : Addr) : Bool :=
  decide (PySem.W.findIn K (.ref D) "__getattribute__" = some (some (.builtin "BaseException.__getattribute__"))) && (decide (PySem.W.findIn K (.ref D) "__getattr__" = some none) && (decide (PySem.W.subIn K (.ref D) (.type "BaseException") = some true) &&
  (PySem.W.hasDictIn K D && (decide (PySem.W.findIn K (.ref D) "__class__" = some (some (.builtin "object.__class__"))) && (decide (PySem.W.specialIn K (.builtin "object.__class__") "__get__" = some (some (.builtin "getset_descriptor.__get__"))) &&
  (decide (PySem.W.takesIn K (.builtin "object.__class__") = some true) && decide (PySem.W.mroIn K D (.type "object") = some true)))))))
theorem xcB_ok {K : PySem.W.Frag} {D : Addr} (h : xcB K D = true) : XC K D := by
  obtain ⟨h1, h⟩ := Bool.and_eq_true_iff.mp h
  obtain ⟨h2, h⟩ := Bool.and_eq_true_iff.mp h
  obtain ⟨h3, h⟩ := Bool.and_eq_true_iff.mp h
  obtain ⟨h4, h⟩ := Bool.and_eq_true_iff.mp h
  obtain ⟨h5, h⟩ := Bool.and_eq_true_iff.mp h
  obtain ⟨h6, h⟩ := Bool.and_eq_true_iff.mp h
  obtain ⟨h7, h8⟩ := Bool.and_eq_true_iff.mp h
  exact ⟨of_decide_eq_true h1, of_decide_eq_true h2, of_decide_eq_true h3, h4, of_decide_eq_true h5, of_decide_eq_true h6, of_decide_eq_true h7, of_decide_eq_true h8⟩
end Vf

set_option maxRecDepth 100000
set_option maxHeartbeats 4000000
/-! sizes of texts of data; walks -/
namespace Vf
open PySem PySem.Spec PyProof.Rows L2
/-- good data: shallow, shown in few signs -/
structure Gd (d : PyData) : Prop where
  sh : d.showable = true
  dp : d.depth ≤ 10
  ln : d.shown.length ≤ 100000
theorem gd_none : Gd .none := ⟨rfl, by decide, by simp only [PyData.shown]; decide⟩
theorem gd_bool (b : Bool) : Gd (.bool b) := ⟨rfl, by simp [PyData.depth], by cases b <;> (simp only [PyData.shown]; decide)⟩
theorem log_small {z : Int} (h : z.natAbs < 2 ^ 1920) : z.natAbs.log2 < 1920 := by
  by_cases e : z.natAbs = 0
  · rw [e]
    decide
  · exact (Nat.log2_lt e).mpr h
theorem gd_int {z : Int} (h : z.natAbs < 2 ^ 1920) : Gd (.int z) := by
  have l := log_small h
  refine ⟨by simp only [PyData.showable, l, decide_true], by simp [PyData.depth], ?_⟩
  simp only [PyData.shown]
  exact Nat.le_trans (int_text_len_1921 l) (by decide)
theorem gd_str {x : Str} (h : ∀ c ∈ x.cps.toList, c < 16 ^ 8) (hl : x.length ≤ 9000) : Gd (.str x) := by
  refine ⟨rfl, by simp [PyData.depth], ?_⟩
  simp only [PyData.shown]
  have q := StrLaws.reprText_len x h
  omega
theorem int_codes (z : Int) : ∀ c ∈ (Str.ofString (toString z)).cps.toList, c < 16 ^ 8 := fun c h => by
  by_cases e : c < 58
  · have : (58 : Nat) < 16 ^ 8 := by decide
    omega
  · exact absurd h (int_text_free' c ⟨by omega, by omega⟩ z)
theorem sum_le_of {l : List Nat} {m : Nat} (h : ∀ x ∈ l, x ≤ m) : l.sum ≤ l.length * m := by
  induction l with
  | nil => simp
  | cons a r ih =>
    have h1 := h a (List.mem_cons_self ..)
    have h2 := ih fun x hx => h x (List.mem_cons_of_mem _ hx)
    rw [List.sum_cons, List.length_cons, Nat.add_mul]
    omega
theorem shownAll_map : ∀ ds : List PyData, PyData.shownAll ds = ds.map PyData.shown
  | [] => by simp only [PyData.shownAll, List.map_nil]
  | d :: r => by simp only [PyData.shownAll, List.map_cons, shownAll_map r]
theorem showableAll_of : ∀ {ds : List PyData}, (∀ d ∈ ds, d.showable = true) → PyData.showableAll ds = true
  | [], _ => by simp only [PyData.showableAll]
  | d :: r, h => by
    simp only [PyData.showableAll, h d (List.mem_cons_self ..), showableAll_of fun x hx => h x (List.mem_cons_of_mem _ hx), Bool.and_self]
theorem depthAll_of {m : Nat} : ∀ {ds : List PyData}, (∀ d ∈ ds, d.depth ≤ m) → PyData.depthAll ds ≤ m
  | [], _ => by simp only [PyData.depthAll]; exact Nat.zero_le _
  | d :: r, h => by
    simp only [PyData.depthAll]
    exact Nat.max_le.mpr ⟨h d (List.mem_cons_self ..), depthAll_of fun x hx => h x (List.mem_cons_of_mem _ hx)⟩
/-- few data, each shown in at most m signs -/
theorem seq_len {ds : List PyData} {m : Nat} (h : ∀ d ∈ ds, d.shown.length ≤ m) : (((PyData.shownAll ds).map (·.length)).sum ≤ ds.length * m) ∧ (PyData.shownAll ds).length = ds.length := by
  rw [shownAll_map]
  refine ⟨?_, by rw [List.length_map]⟩
  have q := sum_le_of (l := ((ds.map PyData.shown).map (·.length))) (m := m) (fun x hx => by
    obtain ⟨s, hs, e⟩ := List.mem_map.mp hx
    obtain ⟨d, hd, e2⟩ := List.mem_map.mp hs
    rw [← e, ← e2]
    exact h d hd)
  rw [List.length_map, List.length_map] at q
  exact q
theorem small_seq {ds : List PyData} {n m : Nat} (hn : ds.length ≤ n) (h1 : ∀ d ∈ ds, d.showable = true) (h2 : ∀ d ∈ ds, d.depth ≤ 60) (h3 : ∀ d ∈ ds, d.shown.length ≤ m) (hz : n * m + 2 * n + 3 ≤ 16777216) : small (.list ds) ∧ small (.tuple ds) := by
  obtain ⟨a, b⟩ := seq_len h3
  have c : ds.length * m ≤ n * m := Nat.mul_le_mul_right _ hn
  have d1 := depthAll_of h2
  refine ⟨⟨by simp only [PyData.showable]; exact showableAll_of h1, by simp only [PyData.depth]; omega, ?_⟩, by simp only [PyData.showable]; exact showableAll_of h1, by simp only [PyData.depth]; omega, ?_⟩
  · simp only [PyData.shown]
    have q := listText_len_le (PyData.shownAll ds)
    rw [sizeLine_eq]
    omega
  · simp only [PyData.shown]
    have q := tupleText_len_le (PyData.shownAll ds)
    rw [sizeLine_eq]
    omega
theorem gd_seq {ds : List PyData} {n m : Nat} (hn : ds.length ≤ n) (h1 : ∀ d ∈ ds, d.showable = true) (h2 : ∀ d ∈ ds, d.depth ≤ 9) (h3 : ∀ d ∈ ds, d.shown.length ≤ m) (hz : n * m + 2 * n + 3 ≤ 100000) : Gd (.list ds) ∧ Gd (.tuple ds) := by
  obtain ⟨a, b⟩ := seq_len h3
  have c : ds.length * m ≤ n * m := Nat.mul_le_mul_right _ hn
  have d1 := depthAll_of h2
  refine ⟨⟨by simp only [PyData.showable]; exact showableAll_of h1, by simp only [PyData.depth]; omega, ?_⟩, by simp only [PyData.showable]; exact showableAll_of h1, by simp only [PyData.depth]; omega, ?_⟩
  · simp only [PyData.shown]
    have q := listText_len_le (PyData.shownAll ds)
    omega
  · simp only [PyData.shown]
    have q := tupleText_len_le (PyData.shownAll ds)
    omega
theorem small_of_gd {ds : List PyData} (hn : ds.length ≤ 100) (h : ∀ d ∈ ds, Gd d) : small (.list ds) ∧ small (.tuple ds) :=
  small_seq hn (fun d hd => (h d hd).sh) (fun d hd => Nat.le_trans (h d hd).dp (by decide)) (fun d hd => (h d hd).ln) (by decide)
theorem Gd.small {d : PyData} (h : Gd d) : small d := ⟨h.sh, Nat.le_trans h.dp (by decide), Nat.le_trans h.ln (by rw [sizeLine_eq]; decide)⟩
theorem gd_dict1 {x : Str} {z : Int} (hx : ∀ c ∈ x.cps.toList, c < 16 ^ 8) (hl : x.length ≤ 1000) (h : z.natAbs < 2 ^ 1920) : Gd (.dict [(.str x, .int z)]) := by
  have l := log_small h
  refine ⟨by simp only [PyData.showable, PyData.showableKv, l, decide_true, Bool.and_self], by simp only [PyData.depth, PyData.depthKv]; decide, ?_⟩
  simp only [PyData.shown, PyData.shownKv]
  have q := dictText_len_le [reprText x ++ ": " ++ (Str.ofString (toString z))]
  have r := StrLaws.reprText_len x hx
  have s := int_text_len_1921 l
  simp only [List.map_cons, List.map_nil, List.sum_cons, List.sum_nil, List.length_cons, List.length_nil, strLen_append] at q
  have t : (Str.ofString ": ").length = 2 := by decide +kernel
  refine Nat.le_trans q ?_
  have t2 : ((": " : String) : Str).length = 2 := t
  omega

/-- for i, x in enumerate(a list) -/
theorem for_enumL {K : PySem.W.Frag} {a : Addr} {xs : List V} {g : TG} {tb : TS} {D : Ends} {σ : L2.St} {H : Hp} (Pv : Nat → L2.St → Hp → Prop) (h0 : Pv 0 σ H) (hq : ∀ i σ H, Pv i σ H → SqL K H a xs)
    (hs : ∀ (i : Nat) (x : V) (T : Addr) (σ : L2.St) (H : Hp), xs[i]? = some x → Pv i σ H → H T = none → g (.ref T) σ (upd H T (.tup [.int (i : Nat), x])) fun σ2 H2 => tb { D with nx := Pv (i + 1), ct := Pv (i + 1), bk := D.nx } σ2 H2) (hd : ∀ σ H, Pv xs.length σ H → D.nx σ H) :
    ∃ W : Nat → Nat → L2.St → Hp → Prop, (∃ m, W 0 m σ H) ∧ ∀ i m σ H, W i m σ H →
      ((Ite K a).stop i H ∧ D.nx σ H) ∨ ((Ite K a).go i H ∧ ∃ N : L2.St → Hp → Prop, (∀ σ' H', N σ' H' → ∃ m', m' < m ∧ W (i + 1) m' σ' H') ∧ ∀ v H', (Ite K a).yld i H v H' → g v σ H' fun σ2 H2 => tb { D with nx := N, ct := N, bk := D.nx } σ2 H2) := by
  refine ⟨fun i m σ H => m + i = xs.length ∧ Pv i σ H, ⟨xs.length, rfl, h0⟩, fun i m σ H ⟨e, p⟩ => ?_⟩
  have q := hq i σ H p
  match m, e with
  | 0, e =>
    have e2 : i = xs.length := by omega
    rw [e2] at p ⊢
    exact .inl ⟨⟨xs, q, Nat.le_refl _⟩, hd σ H p⟩
  | m + 1, e =>
    have lt : i < xs.length := by omega
    refine .inr ⟨⟨xs, xs[i], q, List.getElem?_eq_getElem lt⟩, Pv (i + 1), fun σ' H' p' => ⟨m, Nat.lt_succ_self m, by omega, p'⟩, fun v H' y => ?_⟩
    obtain ⟨T, x, e1, n, e2, hx⟩ := y
    rw [e1, e2]
    exact hs i x T σ H (hx xs q) p n
end Vf

set_option maxRecDepth 100000
set_option maxHeartbeats 4000000
/-! the end of a law's row, from its promise where no guard stands; what the top has written, read off -/
namespace Vf
open PySem PySem.Spec PyProof.Rows L2
/-- what is known of the law's def at the heap behind the top -/
def LawG (l : PySem.W.OpenLaw) (w : World) (K : PySem.W.Frag) (C : CXT) (k n : Nat) (x : Str) (mg : Str → Option Value) (fa : Addr) (h : Heap) : Prop :=
  ∃ (fd : FuncData) (cs : List (Addr × Addr)) (sp : Sp), (∀ p ∈ cs, h.get? p.2 = some { cls := .none, data := .fields #[] }) ∧ (∀ p ∈ cs, K.lookup p.2 = none) ∧ (∀ p ∈ cs, PySem.W.CodeHd h p.1 p.2) ∧
    (∀ (s : Shared) (u : Value), BindsTo s fd ⟨[u], []⟩ [(x, u)]) ∧
    (∀ (H : Hp) (a : Addr) (ns : List Int), ns.length ≤ n → (∀ z ∈ ns, Builtin.Int.intBits z ≤ 1048576) → (∀ p ∈ cs, H p.2 = some (.tbl #[])) → SqL K H a (ns.map V.int) → sp [.ref a] H (fun v _ => v = .bl true) E0) ∧
    ∀ b : Heap, K.In b → b.Ns mainGlobals mg → M1 b → (∀ p ∈ cs, LamX.TabB b mg p.1 p.2) → FnG l.prog w K mg b C k fa fd [x] sp
theorem walkG {l : PySem.W.OpenLaw} {n k : Nat} {q : Program} {loose : List Str} {XP : (Str → Option Value) → Heap → Prop} {YP : World → Heap → Prop} {d : DefRec} {K : Params → PySem.W.Frag} {C : World → CXT} {x : Str}
    (hn : l.most = some n) (hn2 : n ≤ sizeLine) (hdf : d.params.defaults = []) (hr : Room k callerA) (hi : importsNone q = true) (hY : ∀ (w : World) (h : Heap), YP w h → (K w.params).In h)
    (F : ∀ (w : World) (mg : Str → Option Value) (fa : Addr) (h : Heap), YP w h → (K w.params).In h → h.Ns mainGlobals mg → mg d.name = some (.ref fa) → LawG l w (K w.params) (C w) k n x mg fa h)
    (hE : ∀ (w : World) (H : Hp) (s : Shared) (e : Value) (s' : Shared), C w [] H s E0 e s' → False) : PySem.W.WalkO q loose XP YP l.row.toRowW d [] (fun f vs => PySem.call f vs) := by
  refine Att.attach_callB hn hdf fun w s0 s1 mg mb fa o pm cd doc a vs ns G Y ho hd hcd hmg hobj hints hlen hbits hg => ?_
  have X := hY w _ Y
  obtain ⟨fd, cs, sp, hT, nT, hC, bind, hsp, hF⟩ := F w mg fa _ Y X G.T.g hmg
  have m1 : M1 s1.heap := by
    obtain ⟨mm, ⟨o, es, ep, e, dt, _⟩, _⟩ := (G.T.seer hi).mods
    exact ⟨o, es, ep, e, dt⟩
  exact law_enter X G.T.g G.T.b G.T.builtins G.T.nolimit hg hT nT hC G.T.bmain m1 hobj hints (Nat.le_trans hlen hn2) hr hF bind (fun H h1 h2 => hsp H a ns hlen hbits h1 h2) fun H e s' => hE w H s1 e s'

/-- a def of the text, as the written part tells it -/
structure Wr (K : PySem.W.Frag) (qual x : Str) (st : Stmt) (f : Addr) : Prop where
  ex : ∃ fd, Fun K x qual st f fd
theorem wr_mk {K : PySem.W.Frag} {x qual : Str} {st : Stmt} {f : Addr} {oc : Value} {od an : Option Addr} {osl : Array (Option Value)} {kV doc pm cdv ct : Value} (l : K.lookup f = some ⟨oc, od, .func (PySem.W.fnOf x qual (defArgs st) (defBody st) (defScope st) .none kV doc pm an cdv ct), osl⟩)
    (c : PySem.W.codeIn K cdv qual = true) (k : PySem.W.keepIn K (.ref f) = true) : Wr K qual x st f := ⟨_, fun_mk l c k⟩
/-- an exception class, its facts in one look -/
def oexB (K : PySem.W.Frag) (C : Addr) : Bool :=
  decide (PySem.W.findIn K (.ref C) "__setattr__" = some (some (.builtin "object.__setattr__"))) && (decide (PySem.W.subIn K (.ref C) (.type "BaseException") = some true) &&
    (decide (PySem.W.typeIn K (.ref C) = some (.type "type")) && PySem.W.keepIn K (.ref C)))
theorem oexB_ok {K : PySem.W.Frag} {C : Addr} (h : oexB K C = true) (c : ∃ nm q N bs bm sn sub ab col dd k0 k1 k2 k3 k5, K.lookup C = some (excClassObj nm q C N bs bm true sn sub ab col dd k0 k1 k2 k3 k5 "ValueError.__new__") ∧ PySem.HandSPX.refsVE bm = true) : OexC K C := by
  obtain ⟨h1, h⟩ := Bool.and_eq_true_iff.mp h
  obtain ⟨h2, h⟩ := Bool.and_eq_true_iff.mp h
  obtain ⟨h3, h4⟩ := Bool.and_eq_true_iff.mp h
  exact ⟨c, of_decide_eq_true h1, of_decide_eq_true h2, of_decide_eq_true h3, h4⟩
end Vf

set_option maxRecDepth 100000
set_option maxHeartbeats 4000000
/-! the end of a row whose law makes lambdas: the tables of defs -/
namespace Vf
open PySem PySem.Spec PyProof.Rows L2
/-- the tables of the text's own defs are empty, their code objects as they come -/
def TabsG (q : Program) (K : PySem.W.Frag) (mg : Str → Option Value) (h : Heap) : Prop :=
  ∀ (x : Str) (f c Pt : Addr) (o : Obj) (fd : FuncData) (e : Value) (dd : Option Addr) (vs : Array Value) (sl : Array (Option Value)), ((recsOf q).any fun e => e.name == x) = true → mg x = some (.ref f) → K.lookup f = some o → o.data = .func fd → fd.code = .ref c →
    K.lookup c = some ⟨e, dd, .fields vs, sl⟩ → vs[11]? = some (.ref Pt) → PySem.W.CodeHd h c Pt ∧ h.get? Pt = some { cls := .none, data := .fields #[] }
theorem walkT {l : PySem.W.OpenLaw} {n k : Nat} {q : Program} {loose : List Str} {XP : (Str → Option Value) → Heap → Prop} {YP : World → Heap → Prop} {d : DefRec} {K : Params → PySem.W.Frag} {C : World → CXT} {x : Str}
    (hn : l.most = some n) (hn2 : n ≤ sizeLine) (hdf : d.params.defaults = []) (hr : Room k callerA) (hi : importsNone q = true) (hY : ∀ (w : World) (h : Heap), YP w h → (K w.params).In h)
    (F : ∀ (w : World) (mg : Str → Option Value) (fa : Addr) (h : Heap), YP w h → (K w.params).In h → h.Ns mainGlobals mg → mg d.name = some (.ref fa) → TabsG q (K w.params) mg h → LawG l w (K w.params) (C w) k n x mg fa h)
    (hE : ∀ (w : World) (H : Hp) (s : Shared) (e : Value) (s' : Shared), C w [] H s E0 e s' → False) : PySem.W.WalkO q loose XP YP l.row.toRowW d [] (fun f vs => PySem.call f vs) := by
  refine Att.attach_callB hn hdf fun w s0 s1 mg mb fa o pm cd doc a vs ns G Y ho hd hcd hmg hobj hints hlen hbits hg => ?_
  have X := hY w _ Y
  have tabs : TabsG q (K w.params) mg s1.heap := fun x f c Pt o1 fd1 e dd vs1 sl hrec k0 k1 k2 k3 k4 k5 => by
    obtain ⟨dL, hm, hn1⟩ := List.any_eq_true.mp hrec
    have hn2 : dL.name = x := beq_iff_eq.mp hn1
    obtain ⟨a', o', fd', c', P', h1, h2, h3, h4, h5, h6⟩ := G.T.tab dL hm
    rw [hn2, k0] at h1
    cases h1
    have g1 := X _ _ k1
    rw [g1] at h2
    cases h2
    rw [k2] at h3
    cases h3
    rw [k3] at h4
    cases h4
    have h6' := h6
    obtain ⟨⟨oc, vc, e1, _, e3, e4⟩, hP⟩ := h6'
    have g2 := X _ _ k4
    rw [g2] at e1
    cases e1
    cases e3
    rw [k5] at e4
    cases e4
    exact ⟨PySem.W.CodeHd.of h5 h6, hP⟩
  obtain ⟨fd, cs, sp, hT, nT, hC, bind, hsp, hF⟩ := F w mg fa _ Y X G.T.g hmg tabs
  have m1 : M1 s1.heap := by
    obtain ⟨mm, ⟨o, es, ep, e, dt, _⟩, _⟩ := (G.T.seer hi).mods
    exact ⟨o, es, ep, e, dt⟩
  exact law_enter X G.T.g G.T.b G.T.builtins G.T.nolimit hg hT nT hC G.T.bmain m1 hobj hints (Nat.le_trans hlen hn2) hr hF bind (fun H h1 h2 => hsp H a ns hlen hbits h1 h2) fun H e s' => hE w H s1 e s'
end Vf

set_option maxRecDepth 100000
set_option maxHeartbeats 4000000
/-! rules: several clauses with a name each; // by any great int -/
namespace Vf
open PySem PySem.Spec PyProof.Rows L2
/-- what each clause «except c as n» wishes, n in slot i, from the first one on -/
def wEach (K : PySem.W.Frag) (i : Nat) (Wo : WX) (D : Ends) : List (Value × (Addr → Value → Option Addr → TS)) → WX
  | [] => Wo
  | (c, ts) :: r => wAs K c i ts (wEach K i Wo D r) D
inductive Each (X : Cx) (i : Nat) : List ExceptHandler → List (Value × (Addr → Value → Option Addr → TS)) → Prop
  | nil : Each X i [] []
  | cons {x n : Str} {c : Value} {ts : Addr → Value → Option Addr → TS} {b : Stmt} {bs : List Stmt} {p q : Pos} {hds : List ExceptHandler} {l : List (Value × (Addr → Value → Option Addr → TS))} (nm : Names X x c) (at_ : X.N[i]? = some n) (lo : X.env.kindOf n = some .local)
      (su : ∀ (a : Addr) (oe : Obj) (cls : Value) (d : Option Addr) (pn : List (Addr × Obj)), Zc cls d oe → (∃ vs, oe.data = .fields vs) → PSs (X.suite a ((a, oe) :: pn)) (b :: bs) (ts a cls d)) (t : Each X i hds l) :
      Each X i (.ExceptHandler (some (.Name x p)) (some n) (b :: bs) q :: hds) ((c, ts) :: l)
section
variable {X : Cx} {i : Nat} {body : List Stmt} {h1 : ExceptHandler} {hs : List ExceptHandler} {l : List (Value × (Addr → Value → Option Addr → TS))} {pos : Pos} {tb : WX → TS} {Wo : WX}
/-- try: body / except .. as n: .. / except .. as n: .. -/
theorem ps_try_each (st : X.stack = X.env :: X.outer) (fr : X.env.frame = some X.env.locals) (nd : X.N.Nodup) (tk : Takes X Wo)
    (bd : ∀ (W : WX) (pn : List (Addr × Obj)) (xe : Value → Shared → Prop), Takes (X.tr pn xe) W → PassesOwn (model X.prog X.w) X.A X.env xe → PSs (X.tr pn xe) body (tb W)) (hd : Each X i (h1 :: hs) l) :
    PS X (.Try body (h1 :: hs) [] [] pos) (fun D σ H => tb (wEach X.K i Wo D l) D σ H) := by
  refine ⟨fun pins s σ H D I h => wpAny_Try_except ?_⟩
  have ok := I.ok
  have A1 : X.A.frames = some (X.env :: X.outer) := ok.frames.trans (congrArg some st)
  have run := (bd (wEach X.K i Wo D l) (X.pn ++ pins) (fun e s1 => wpAny (model X.prog X.w) X.A (noteFrame e X.env) (fun _ s2 => wpAny (model X.prog X.w) X.A (setFlight e none) (fun _ s3 => wpAny (model X.prog X.w) X.A (handleBy e X.env (h1 :: hs)) (SP X pins D) X.xe s3) X.xe s2) X.xe s1)
    (fun u s' xx => ?_) PassesOwn.looking).run [] s σ H D (I.toTry _) h
  · refine wpAny_mono run (fun f s1 z => ?_) fun e s1 z => z
    match f, z with
    | .next, ⟨σ', H', J, q⟩ => exact wpAny_execs_nil ⟨σ', H', J.ofTry ok, q⟩
    | .brk, ⟨σ', H', J, q⟩ => exact ⟨σ', H', J.ofTry ok, q⟩
    | .cont, ⟨σ', H', J, q⟩ => exact ⟨σ', H', J.ofTry ok, q⟩
    | .ret u, ⟨v, σ', H', J, r, q⟩ => exact ⟨v, σ', H', J.ofTry ok, r, q⟩
  · obtain ⟨a, B, sI, pins', σ1, H1, cls, d, ea, J', nb, up, sky, na, os, ag, w⟩ := xx
    subst ea
    have J : Inv X pins σ1 H1 sI := J'.ofTry ok
    rw [st] at sky
    show wpAny (model X.prog X.w) X.A (noteFrame (.ref a) X.env) _ _ _
    refine Sky.land Zc.steady A1 fr sky fun h3 fl up3 => ?_
    have J3 : Inv X pins σ1 H1 { s' with heap := h3 } := J.landed nb fl.1 (up.trans up3) os ag
    obtain ⟨oe, vs, he, hz, hdt⟩ := fl.there
    have out : a ∉ frs (X.env :: X.outer) := fun m => by
      obtain ⟨_, o2, e2, ne⟩ := fl.2.2.1.mem m
      rw [he] at e2
      cases e2
      exact ne _ hdt
    have notL : a ≠ X.env.locals := fun z => out (List.mem_filterMap.mpr ⟨X.env, List.mem_cons_self, by rw [fr, z]⟩)
    have notF : a ∉ X.fs := fun m => by
      obtain ⟨e, he, q⟩ := List.mem_filterMap.mp m
      exact out (List.mem_filterMap.mpr ⟨e, List.mem_cons_of_mem _ he, q⟩)
    have S3 := J3.suite he hdt na notL notF
    have ty : PySem.W.Looks (model X.prog X.w) h3 (typeOf (.ref a)) cls := fun A Q E s k q => wpAny_typeOf_ref (k _ _ he) (by rw [hz.1]; exact q)
    have each : ∀ (hs2 : List ExceptHandler) (l2 : List (Value × (Addr → Value → Option Addr → TS))), Each X i hs2 l2 → wEach X.K i Wo D l2 cls d σ1 H1 → wpAny (model X.prog X.w) X.A (handleBy (.ref a) X.env hs2) (SP X pins D) X.xe { s' with heap := h3 } := by
      intro hs2 l2 hk
      induction hk with
      | nil =>
        intro wo
        refine wpAny_handleBy_nil ?_
        obtain ⟨_, _, _, o2, v2, T2, oT2, t2, g1, g2, g3, g4, g5⟩ := id fl
        unfold PySem.passOn
        refine wpAny_bind (wpAny_field g1 g3 g4 ?_)
        rw [if_neg (show ¬ ((Value.ref T2 == Value.none) = true) from by simp)]
        have last : wpAny (model X.prog X.w) X.A (setFlight (.ref a) X.env.frame) (fun _ s4 => wpAny (model X.prog X.w) X.A (throw (.ref a) : Sem Flow) (SP X pins D) X.xe s4) X.xe { s' with heap := h3 } := by
          rw [fr]
          refine HandSPX.setFlight_upZ fl fun h4 up4 u4 => wpAny_throw (tk _ _ ⟨a, B, sI, pins, σ1, H1, cls, d, rfl, J, nb, (up.trans up3).trans u4, .inr (.inr (by rw [st]; exact up4)), na, os, ag, wo⟩)
        first
          | exact wpAny_bind (wpAny_pure (wpAny_bind last))
          | exact wpAny_bind last
      | @cons x n c ts b bs p q hds l3 nm at_ lo su t ih =>
        intro wo
        obtain ⟨k, hk, yes, no⟩ := wo
        refine wpAny_handleBy_cons (codeAny_handlers_test ?_) (by intro q; cases q)
        have LM := PySem.W.exm_one (M := model X.prog X.w) (J3.kIn) ty hk
        have see : ∀ {Q : Value → Shared → Prop} {E : Value → Shared → Prop}, Q c { s' with heap := h3 } → wpAny (model X.prog X.w) (X.A.mark (some (.ref a))) (eval (.Name x p) X.env) Q E { s' with heap := h3 } := by
          intro Q E q
          obtain ⟨g1, g2, g3 | ⟨g3, g4, g5⟩⟩ := nm
          · exact ld_glob (X := X.suite a ((a, oe) :: (X.pn ++ pins))) S3 g1 g3 q g2
          · exact ld_blt (X := X.suite a ((a, oe) :: (X.pn ++ pins))) S3 g1 g3 g4 q g5 g2
        refine see (LM.here ?_)
        cases k with
        | false =>
          show wpAny _ X.A (handleBy (.ref a) X.env hds) _ _ _
          exact ih (no rfl)
        | true =>
          refine codeAny_handlers_suite_as (HandSPX.lands_againZ fl fun h4 fl4 up4 => ?_)
          have J4 : Inv X pins σ1 H1 { s' with heap := h4 } := J.landed nb fl4.1 ((up.trans up3).trans up4) os ag
          obtain ⟨o4, v4, e4, z4, d4⟩ := fl4.there
          have S4 := J4.suite e4 d4 na notL notF
          refine store_ok (X := X.suite a ((a, o4) :: (X.pn ++ pins))) (v := .ref a) S4 nd at_ (.inl lo) rfl (fun s5 S5 => ?_) (.inr lo)
          refine wpAny_mono ((su a o4 cls d (X.pn ++ pins) z4 ⟨_, d4⟩).run [] s5 _ H1 _ S5 (yes rfl a na)) (fun f s6 z => ?_) (fun _ _ z => False.elim z)
          have away : ∀ {σ6 : L2.St} {H6 : Hp} {Q : Shared → Prop}, Inv (X.suite a ((a, o4) :: (X.pn ++ pins))) [] σ6 H6 s6 → (∀ s7, Inv X pins (σ6.set i none) H6 s7 → Q s7) →
              wpAny (model X.prog X.w) X.A (do bindName X.env n .none; unbindBehindTheSuite X.env n q) (fun _ s7 => Q s7) X.xe s6 := fun S6 g => gone_ok (S6.unsuite ok) nd at_ lo g
          match f, z with
          | .next, ⟨σ6, H6, S6, g⟩ => exact away S6 fun s7 J7 => ⟨_, _, J7, g⟩
          | .brk, ⟨σ6, H6, S6, g⟩ => exact away S6 fun s7 J7 => ⟨_, _, J7, g⟩
          | .cont, ⟨σ6, H6, S6, g⟩ => exact away S6 fun s7 J7 => ⟨_, _, J7, g⟩
          | .ret u, ⟨v6, σ6, H6, S6, r6, g⟩ => exact away S6 fun s7 J7 => ⟨_, _, _, J7, r6, g⟩
    exact each _ _ hd w
end
/-- // by an int that is not 0, below 2 ^ 9000 in size -/
def CDivZ (_ j : Int) : Prop := j ≠ 0 ∧ j.natAbs.log2 < 9000
theorem op_fdivZ {X : Cx} : OpR X (binaryOp .FloorDiv) (rI CDivZ fun i j => .int (i.fdiv j)) := opI fun i j _ _ _ _ _ hc q => floordiv_int hc.1 q (.inl (PyProof.noPylong_of_log2 hc.2))
end Vf

/-! ratios: the mathematics -/
namespace Vf
/-- the greatest common divisor, with the sign of the bottom -/
def sg (t b : Int) : Int := if b < 0 then -((Nat.gcd t.natAbs b.natAbs : Nat) : Int) else ((Nat.gcd t.natAbs b.natAbs : Nat) : Int)
/-- in lowest terms -/
def low (t b : Int) : Int × Int := (t.fdiv (sg t b), b.fdiv (sg t b))
theorem fdiv_of_mul {s k : Int} (h : s ≠ 0) : (s * k).fdiv s = k := Int.mul_fdiv_cancel_left k h
theorem gcd_pos {t b : Int} (h : b ≠ 0) : 0 < Nat.gcd t.natAbs b.natAbs := Nat.gcd_pos_of_pos_right _ (by omega)
theorem sg_ne {t b : Int} (h : b ≠ 0) : sg t b ≠ 0 := by
  have g := gcd_pos (t := t) h
  unfold sg
  split <;> omega
/-- t and b are the sign's multiples -/
theorem sg_dvd {t b : Int} (h : b ≠ 0) : ∃ t' b' : Int, t = sg t b * t' ∧ b = sg t b * b' ∧ 0 < b' ∧ Nat.gcd t'.natAbs b'.natAbs = 1 := by
  have g := gcd_pos (t := t) h
  generalize hG : Nat.gcd t.natAbs b.natAbs = G at g
  have d1 : ((G : Nat) : Int) ∣ t := Int.ofNat_dvd_left.mpr (by rw [← hG]; exact Nat.gcd_dvd_left _ _)
  have d2 : ((G : Nat) : Int) ∣ b := Int.ofNat_dvd_left.mpr (by rw [← hG]; exact Nat.gcd_dvd_right _ _)
  obtain ⟨x, hx⟩ := d1
  obtain ⟨y, hy⟩ := d2
  have one : Nat.gcd x.natAbs y.natAbs = 1 := by
    have e1 : t.natAbs = G * x.natAbs := by rw [hx, Int.natAbs_mul, Int.natAbs_natCast]
    have e2 : b.natAbs = G * y.natAbs := by rw [hy, Int.natAbs_mul, Int.natAbs_natCast]
    have e3 : Nat.gcd (G * x.natAbs) (G * y.natAbs) = G * Nat.gcd x.natAbs y.natAbs := Nat.gcd_mul_left _ _ _
    rw [← e1, ← e2, hG] at e3
    have e4 : G * 1 = G * Nat.gcd x.natAbs y.natAbs := by omega
    exact (Nat.eq_of_mul_eq_mul_left g e4).symm
  have gp : (0 : Int) < (G : Int) := by omega
  have sg_e : sg t b = if b < 0 then -(G : Int) else (G : Int) := by unfold sg; rw [hG]
  by_cases hb : b < 0
  · refine ⟨-x, -y, ?_, ?_, ?_, ?_⟩
    · rw [sg_e, if_pos hb, Int.neg_mul_neg]; exact hx
    · rw [sg_e, if_pos hb, Int.neg_mul_neg]; exact hy
    · rw [hy] at hb
      have : y < 0 := by
        rcases Int.lt_or_le y 0 with z | z
        · exact z
        · have := Int.mul_nonneg (Int.le_of_lt gp) z
          omega
      omega
    · rw [Int.natAbs_neg, Int.natAbs_neg]; exact one
  · refine ⟨x, y, ?_, ?_, ?_, one⟩
    · rw [sg_e, if_neg hb]; exact hx
    · rw [sg_e, if_neg hb]; exact hy
    · rcases Int.lt_or_le 0 y with z | z
      · exact z
      · have h2 : (G : Int) * y ≤ 0 := Int.mul_nonpos_of_nonneg_of_nonpos (Int.le_of_lt gp) z
        rw [← hy] at h2
        omega
theorem low_eq {t b t' b' : Int} (h : b ≠ 0) (e1 : t = sg t b * t') (e2 : b = sg t b * b') : low t b = (t', b') := by
  have s := sg_ne (t := t) h
  unfold low
  have a1 : t.fdiv (sg t b) = t' := by
    have z := fdiv_of_mul (s := sg t b) (k := t') s
    rw [← e1] at z
    exact z
  have a2 : b.fdiv (sg t b) = b' := by
    have z := fdiv_of_mul (s := sg t b) (k := b') s
    rw [← e2] at z
    exact z
  rw [a1, a2]
/-- in lowest terms: its bottom is above 0, nothing is common -/
structure Low (t b : Int) : Prop where
  pos : 0 < b
  one : Nat.gcd t.natAbs b.natAbs = 1
theorem low_is {t b : Int} (h : b ≠ 0) : Low (low t b).1 (low t b).2 := by
  obtain ⟨x, y, e1, e2, hp, ho⟩ := sg_dvd (t := t) h
  rw [low_eq h e1 e2]
  exact ⟨hp, ho⟩
theorem low_id {t b : Int} (h : Low t b) : low t b = (t, b) := by
  have hb : b ≠ 0 := by have := h.pos; omega
  have e : sg t b = 1 := by unfold sg; rw [h.one, if_neg (by have := h.pos; omega)]; rfl
  exact low_eq hb (by rw [e, Int.one_mul]) (by rw [e, Int.one_mul])
theorem sg_scale {t b k : Int} (hk : 0 < k) : sg (t * k) (b * k) = sg t b * k := by
  have e : Nat.gcd (t * k).natAbs (b * k).natAbs = Nat.gcd t.natAbs b.natAbs * k.natAbs := by
    rw [Int.natAbs_mul, Int.natAbs_mul, Nat.gcd_mul_right]
  have ek : ((k.natAbs : Nat) : Int) = k := by omega
  unfold sg
  rw [e]
  by_cases hb : b < 0
  · have : b * k < 0 := Int.mul_neg_of_neg_of_pos hb hk
    rw [if_pos hb, if_pos this, Int.natCast_mul, ek, Int.neg_mul]
  · have : ¬ b * k < 0 := by
      have := Int.mul_nonneg (show (0 : Int) ≤ b by omega) (Int.le_of_lt hk)
      omega
    rw [if_neg hb, if_neg this, Int.natCast_mul, ek]
theorem low_scale {t b k : Int} (h : b ≠ 0) (hk : 0 < k) : low (t * k) (b * k) = low t b := by
  obtain ⟨x, y, e1, e2, _, _⟩ := sg_dvd (t := t) h
  have hbk : b * k ≠ 0 := Int.mul_ne_zero h (by omega)
  rw [low_eq h e1 e2]
  refine low_eq hbk ?_ ?_
  · rw [sg_scale hk, Int.mul_assoc, Int.mul_comm k x, ← Int.mul_assoc, ← e1]
  · rw [sg_scale hk, Int.mul_assoc, Int.mul_comm k y, ← Int.mul_assoc, ← e2]
/-- a ratio k times over is the ratio -/
theorem low_back {t b k : Int} (h : Low t b) (hk : 0 < k) : low (t * k) (b * k) = (t, b) := by
  rw [low_scale (by have := h.pos; omega) hk, low_id h]
theorem low_size {t b : Int} (h : b ≠ 0) : (low t b).1.natAbs ≤ t.natAbs ∧ (low t b).2.natAbs ≤ b.natAbs := by
  obtain ⟨x, y, e1, e2, _, _⟩ := sg_dvd (t := t) h
  rw [low_eq h e1 e2]
  have s : 0 < (sg t b).natAbs := by have := sg_ne (t := t) h; omega
  have a1 : t.natAbs = (sg t b).natAbs * x.natAbs := by rw [← Int.natAbs_mul, ← e1]
  have a2 : b.natAbs = (sg t b).natAbs * y.natAbs := by rw [← Int.natAbs_mul, ← e2]
  rw [a1, a2]
  exact ⟨Nat.le_mul_of_pos_left _ s, Nat.le_mul_of_pos_left _ s⟩
theorem low_val {t b : Int} (h : b ≠ 0) : t * (low t b).2 = (low t b).1 * b := by
  obtain ⟨x, y, e1, e2, _, _⟩ := sg_dvd (t := t) h
  rw [low_eq h e1 e2]
  generalize sg t b = s at e1 e2
  rw [e1, e2]
  show s * x * y = x * (s * y)
  rw [Int.mul_comm s x, Int.mul_assoc]
theorem sg_size {t b : Int} (h : b ≠ 0) : (sg t b).natAbs ≤ b.natAbs := by
  have e : (sg t b).natAbs = Nat.gcd t.natAbs b.natAbs := by
    unfold sg
    split
    · rw [Int.natAbs_neg, Int.natAbs_natCast]
    · rw [Int.natAbs_natCast]
  rw [e]
  exact Nat.le_of_dvd (by omega) (Nat.gcd_dvd_right _ _)
/-- Euclid's laps: what holds ahead of the i-th -/
structure Lap (G P : Nat) (i : Nat) (a b : Int) : Prop where
  a0 : 0 ≤ a
  b0 : 0 ≤ b
  g : Nat.gcd a.natAbs b.natAbs = G
  le : i = 0 ∨ b ≤ a
  sm : a.natAbs * b.natAbs * 2 ^ (i - 1) ≤ P
theorem lap0 (x y : Int) : Lap (Nat.gcd x.natAbs y.natAbs) (x.natAbs * y.natAbs) 0 (if x < 0 then -x else x) (if y < 0 then -y else y) := by
  have e : ∀ z : Int, (if z < 0 then -z else z) = ((z.natAbs : Nat) : Int) := fun z => by split <;> omega
  rw [e, e]
  exact ⟨by omega, by omega, by rw [Int.natAbs_natCast, Int.natAbs_natCast], .inl rfl, by rw [Int.natAbs_natCast, Int.natAbs_natCast]; simp⟩
theorem lap_next {G P i : Nat} {a b : Int} (h : Lap G P i a b) (hb : b ≠ 0) : Lap G P (i + 1) b (a % b) := by
  have b1 : 0 < b := by have := h.b0; omega
  have r0 := Int.emod_nonneg a hb
  have r1 := Int.emod_lt_of_pos a b1
  obtain ⟨x, rfl⟩ := Int.eq_ofNat_of_zero_le h.a0
  obtain ⟨y, rfl⟩ := Int.eq_ofNat_of_zero_le h.b0
  have em : ((x : Int) % (y : Int)) = ((x % y : Nat) : Int) := by omega
  refine ⟨by omega, r0, ?_, .inr (by omega), ?_⟩
  · rw [em, Int.natAbs_natCast, Int.natAbs_natCast]
    have g := h.g
    rw [Int.natAbs_natCast, Int.natAbs_natCast] at g
    rw [Nat.gcd_comm, ← Nat.gcd_rec, Nat.gcd_comm]
    exact g
  · have s := h.sm
    rw [em]
    rw [Int.natAbs_natCast, Int.natAbs_natCast] at s ⊢
    rw [Nat.add_sub_cancel]
    have y1 : 0 < y := by omega
    rcases h.le with z | z
    · rw [z] at s ⊢
      simp only [Nat.zero_sub, Nat.pow_zero, Nat.mul_one] at s ⊢
      have : x % y ≤ x := Nat.mod_le _ _
      calc y * (x % y) ≤ y * x := Nat.mul_le_mul_left _ this
        _ = x * y := Nat.mul_comm _ _
        _ ≤ P := s
    · have hxy : y ≤ x := by omega
      have hm : 2 * (x % y) ≤ x := by
        have q := Nat.div_add_mod x y
        have q1 : 1 ≤ x / y := (Nat.le_div_iff_mul_le y1).mpr (by omega)
        have q2 : y * 1 ≤ y * (x / y) := Nat.mul_le_mul_left _ q1
        have q3 := Nat.mod_lt x y1
        omega
      by_cases hi : i = 0
      · rw [hi] at s ⊢
        simp only [Nat.zero_sub, Nat.pow_zero, Nat.mul_one] at s ⊢
        have : x % y ≤ x := Nat.mod_le _ _
        calc y * (x % y) ≤ y * x := Nat.mul_le_mul_left _ this
          _ = x * y := Nat.mul_comm _ _
          _ ≤ P := s
      · have ei : 2 ^ i = 2 * 2 ^ (i - 1) := by
          have : i = (i - 1) + 1 := by omega
          rw [this, Nat.pow_succ, Nat.add_sub_cancel, Nat.mul_comm]
        rw [ei]
        calc y * (x % y) * (2 * 2 ^ (i - 1)) = (2 * (x % y)) * (y * 2 ^ (i - 1)) := by
              rw [Nat.mul_comm y (x % y), Nat.mul_assoc, Nat.mul_left_comm y 2, ← Nat.mul_assoc (x % y) 2, Nat.mul_comm (x % y) 2]
          _ ≤ x * (y * 2 ^ (i - 1)) := Nat.mul_le_mul_right _ hm
          _ = x * y * 2 ^ (i - 1) := by rw [Nat.mul_assoc]
          _ ≤ P := s
theorem lap_end {G P i : Nat} {a b : Int} (h : Lap G P i a b) (hb : b = 0) : a = ((G : Nat) : Int) := by
  have g := h.g
  rw [hb] at g
  have e : Nat.gcd a.natAbs (0 : Int).natAbs = a.natAbs := Nat.gcd_zero_right _
  rw [e] at g
  have := h.a0
  omega
theorem lap_over {G P : Nat} {i : Nat} {a b : Int} (h : Lap G P i a b) (hi : 0 < i) (hP : P < 2 ^ (i - 1)) : b = 0 := by
  have s := h.sm
  have l : b ≤ a := by rcases h.le with z | z <;> omega
  rcases Nat.eq_zero_or_pos (a.natAbs * b.natAbs) with z | z
  · rcases Nat.mul_eq_zero.mp z with z | z
    · have := h.b0; omega
    · omega
  · have : 1 * 2 ^ (i - 1) ≤ a.natAbs * b.natAbs * 2 ^ (i - 1) := Nat.mul_le_mul_right _ z
    omega
end Vf

set_option maxRecDepth 100000
set_option maxHeartbeats 4000000
/-! rules: a list or tuple walked; == of data; == by a class's own def; rows of ratios -/
namespace Vf
open PySem PySem.Spec PyProof.Rows L2
section
variable {X : Cx} {tg : Expr}
/-- a walk over a list or a tuple -/
def iSeq (K : PySem.W.Frag) (tl : TE) : TI := fun σ H R => tl σ H fun x H1 => ∃ a, x = .ref a ∧ ((∃ xs, SqL K H1 a xs ∧ R (Itl K a) H1) ∨ (∃ xs, SqT K H1 a xs ∧ R (Itt K a) H1))
theorem pi_seq {l : Expr} {tl : TE} (hl : PE X l tl) : PI X tg l (iSeq X.K tl) := by
  refine ⟨fun pins s σ H R I h => ?_⟩
  refine thn (hl.run pins s σ H _ I h) fun v s1 ⟨x, H1, I1, r1, q1⟩ => ?_
  obtain ⟨a, e, q1⟩ := q1
  subst e
  rcases q1 with ⟨xs, hq, q⟩ | ⟨xs, hq, q⟩
  · cases r1
    obtain ⟨its, rv, p, hz⟩ := I1.list hq
    refine wpAny_pyIter_list p.isList ?_
    refine ⟨s1.heap.objs.size, [s1.heap.objs.size], _, _, H1, rfl, I1.kept (t' := s1.toks) fun b o e => Heap.get?_push_of_some _ e, turn_list a _, ⟨_, Heap.get?_push_size _ rfl, rfl, rfl⟩, fun b hb => ?_, q⟩
    have e : b = s1.heap.objs.size := by simpa using hb
    subst e
    exact I1.fpOk (Nat.le_refl _) (I1.hok.fresh (Nat.le_refl _))
  · cases r1
    obtain ⟨its, rv, p, hz⟩ := I1.tuple hq
    refine wpAny_pyIter_tuple (show s1.heap.IsTuple a its.toArray from p) ?_
    refine ⟨s1.heap.objs.size, [s1.heap.objs.size], _, _, H1, rfl, I1.kept (t' := s1.toks) fun b o e => Heap.get?_push_of_some _ e, turn_tuple a _, ⟨_, Heap.get?_push_size _ rfl, rfl, rfl⟩, fun b hb => ?_, q⟩
    have e : b = s1.heap.objs.size := by simpa using hb
    subst e
    exact I1.fpOk (Nat.le_refl _) (I1.hok.fresh (Nat.le_refl _))
/-- list(x), told by its constants alone -/
def rListOf (K : PySem.W.Frag) : List V → Hp → VK → Prop := fun xs H Q => ∃ p ys, xs = [.ref p] ∧ (SqL K H p ys ∨ SqT K H p ys) ∧ ∀ l, H l = none → Q (.ref l) (upd H l (.lst ys))
theorem call_listK : CallR X (.type "list") (rListOf X.K) := call_list_of
/-- == and != of data without dicts -/
def rEqT (K : PySem.W.Frag) : R2 := fun x y H Q => ∃ d e, Dt K H x d ∧ Dt K H y e ∧ d.plain = true ∧ e.plain = true ∧ d.depth ≤ 60 ∧ Q (.bl (PyData.eqv d e)) H
def rNeT (K : PySem.W.Frag) : R2 := fun x y H Q => ∃ d e, Dt K H x d ∧ Dt K H y e ∧ d.plain = true ∧ e.plain = true ∧ d.depth ≤ 60 ∧ Q (.bl (!PyData.eqv d e)) H
theorem op_eqT (hu : X.A.units + 64 < cLine) (m : M1 X.base) : OpR X (compareOp .Eq) (rEqT X.K) := by
  intro pins s σ H x y v u Q I rx ry h
  obtain ⟨d, e, hd, he, pd, pe, hz, q⟩ := h
  obtain ⟨as, r1, _⟩ := Dt.reads I m hd rx
  obtain ⟨bs, r2, _⟩ := Dt.reads I m he ry
  exact SeqAt.eq_plain r1 r2 pd pe (by have := Nat.min_le_left d.depth e.depth; omega) ⟨.bl _, H, I, rfl, q⟩
theorem op_neT (hu : X.A.units + 64 < cLine) (m : M1 X.base) : OpR X (compareOp .NotEq) (rNeT X.K) := by
  intro pins s σ H x y v u Q I rx ry h
  obtain ⟨d, e, hd, he, pd, pe, hz, q⟩ := h
  obtain ⟨as, r1, _⟩ := Dt.reads I m hd rx
  obtain ⟨bs, r2, _⟩ := Dt.reads I m he ry
  exact SeqAt.ne_plain r1 r2 pd pe (by have := Nat.min_le_left d.depth e.depth; omega) ⟨.bl _, H, I, rfl, q⟩
/-- x == y, x of the class at C whose own == is at g -/
def rEqO (K : PySem.W.Frag) (C : Addr) (sp : Sp) (E : XK) : R2 := fun x y H Q => ∃ a dx fs t, x = .ref a ∧ H a = some (.ins C dx fs) ∧ TyX K H y t ∧ PySem.W.notFirst K C t = true ∧ sp [x, y] H Q E
theorem op_eqO {CX : CXT} {C g : Addr} {k : Nat} {fd : FuncData} {ps : List Str} {sp : Sp} {E : XK} (hs : PySem.W.findIn X.K (.ref C) "__eq__" = some (some (.ref g))) (hf : PySem.W.isFn X.K (.ref g) = true)
    (F : FnOk X.prog X.w X.K X.mg X.base CX k g fd ps sp) (hb : Binds X.K fd ps []) (hr : Room k X.A) (hx : Passes CX X E) : OpR X (compareOp .Eq) (rEqO X.K C sp E) := by
  intro pins s σ H x y v u Q I rx ry h
  obtain ⟨a, dx, fs, t, rfl, ha, ty, hn, q⟩ := h
  cases (show v = Value.ref a from rx)
  obtain ⟨mA, O, _⟩ := ins_get I.hok ha
  obtain ⟨od, J, _⟩ := O.look
  obtain ⟨P, Z, p, _⟩ := kit_of I ry ty
  obtain ⟨m, hF⟩ := I.fr
  refine PySem.W.cmp_K (op := .Eq) (tb := t) hr.units0 hF I.ok.mod.kin J (Z.ty _ _ I.kIn p) hn hs hf ?_
  have hsp : sp ([V.ref a, y] ++ []) H Q E := q
  refine wpAny_mono (run_fn (us := [.ref a, u]) (vs := [.ref a, y]) F hr hb .nil hx I (.cons rfl (.cons ry .nil)) hsp) (fun w s' z => ?_) fun _ _ x => x
  obtain ⟨z', H', I', rz, qz⟩ := z
  exact SlX.cmpback rz ⟨z', H', I', rz, qz⟩
end
/-- what is new in the second heap -/
def nw (H H' : Hp) : Hp := fun b => match H b with
  | some _ => none
  | none => H' b
theorem nw_at {H H' : Hp} {b : Addr} {o : HO} (h : H b = none) (e : H' b = some o) : nw H H' b = some o := by
  unfold nw
  rw [h]
  exact e
theorem nw_get {H H' : Hp} {b : Addr} {o : HO} (e : nw H H' b = some o) : H b = none ∧ H' b = some o := by
  unfold nw at e
  split at e
  · cases e
  · exact ⟨by assumption, e⟩
theorem nw_sub {H H' : Hp} : Same (nw H H') H' := fun b o e => (nw_get e).2
/-- the heap without l and p -/
def fz (l p : Addr) (H : Hp) : Hp := fun b => if b = l ∨ b = p then none else H b
theorem fz_at {l p b : Addr} {H : Hp} {o : HO} (h1 : b ≠ l) (h2 : b ≠ p) (e : H b = some o) : fz l p H b = some o := by
  unfold fz
  rw [if_neg (fun z => z.elim h1 h2)]
  exact e
theorem fz_get {l p b : Addr} {H : Hp} {o : HO} (e : fz l p H b = some o) : b ≠ l ∧ b ≠ p ∧ H b = some o := by
  unfold fz at e
  by_cases h : b = l ∨ b = p
  · rw [if_pos h] at e
    cases e
  · rw [if_neg h] at e
    exact ⟨fun z => h (.inl z), fun z => h (.inr z), e⟩
theorem fz_sub {l p : Addr} {H : Hp} : Same (fz l p H) H := fun b o e => (fz_get e).2.2
theorem fz_mono {l p : Addr} {H H' : Hp} (k : ∀ b o, b ≠ l → b ≠ p → H b = some o → H' b = some o) : Same (fz l p H) (fz l p H') := fun b o e => by
  obtain ⟨h1, h2, h3⟩ := fz_get e
  exact fz_at h1 h2 (k b o h1 h2 h3)
theorem nw_fz {l p : Addr} {H H' : Hp} {o1 o2 : HO} (hl : H l = some o1) (hp : H p = some o2) : Same (nw H H') (fz l p H') := fun b o e => by
  obtain ⟨h1, h2⟩ := nw_get e
  exact fz_at (fun z => by rw [z, hl] at h1; cases h1) (fun z => by rw [z, hp] at h1; cases h1) h2
theorem some_free {p b : Addr} {H H' : Hp} {o : HO} (k : ∀ c u, c ≠ p → H c = some u → H' c = some u) (hp : H' p = some o) (n : H' b = none) : H b = none := by
  cases e : H b with
  | none => rfl
  | some u =>
    by_cases h : b = p
    · rw [h, hp] at n
      cases n
    · rw [k b u h e] at n
      cases n
/-! ### rows of ratios -/
def pairD (p : Int × Int) : PyData := .tuple [.int p.1, .int p.2]
/-- a row without the zeros behind -/
def strip (l : List (Int × Int)) : List (Int × Int) := (l.reverse.dropWhile fun p => p.1 == 0).reverse
theorem strip_nil : strip [] = [] := rfl
theorem strip_snoc (l : List (Int × Int)) (x : Int × Int) : strip (l ++ [x]) = if x.1 = 0 then strip l else l ++ [x] := by
  unfold strip
  rw [List.reverse_append]
  simp only [List.reverse_cons, List.reverse_nil, List.nil_append, List.singleton_append, List.dropWhile_cons, beq_iff_eq]
  split
  · rfl
  · rw [List.reverse_cons, List.reverse_reverse]
theorem snoc_ind {α : Type} {P : List α → Prop} (h0 : P []) (hs : ∀ l x, P l → P (l ++ [x])) : ∀ l, P l := fun l => by
  have h : ∀ r : List α, P r.reverse := fun r => by
    induction r with
    | nil => exact h0
    | cons x r ih => rw [List.reverse_cons]; exact hs _ _ ih
  have z := h l.reverse
  rw [List.reverse_reverse] at z
  exact z
theorem snoc_cases {α : Type} (l : List α) : l = [] ∨ ∃ r x, l = r ++ [x] := snoc_ind (P := fun l => l = [] ∨ ∃ r x, l = r ++ [x]) (.inl rfl) (fun l x _ => .inr ⟨l, x, rfl⟩) l
theorem strip_last : ∀ {l r : List (Int × Int)} {x : Int × Int}, strip l = r ++ [x] → x.1 ≠ 0 := by
  intro l
  refine snoc_ind (P := fun l => ∀ {r : List (Int × Int)} {x : Int × Int}, strip l = r ++ [x] → x.1 ≠ 0) (fun {r x} h => by simp [strip_nil] at h) (fun l y ih {r x} h => ?_) l
  rw [strip_snoc] at h
  split at h
  · exact ih h
  · have z := (List.append_inj' h rfl).2
    cases z
    assumption
theorem strip_pre (l : List (Int × Int)) : ∃ r, l = strip l ++ r ∧ ∀ x ∈ r, x.1 = 0 := by
  refine snoc_ind (P := fun l => ∃ r, l = strip l ++ r ∧ ∀ x ∈ r, x.1 = 0) ⟨[], rfl, fun x h => by cases h⟩ (fun l y ih => ?_) l
  rw [strip_snoc]
  split
  · rename_i h0
    obtain ⟨r, e, hr⟩ := ih
    refine ⟨r ++ [y], by rw [← List.append_assoc, ← e], fun x hx => ?_⟩
    rcases List.mem_append.mp hx with z | z
    · exact hr x z
    · rw [List.mem_singleton.mp z]; exact h0
  · exact ⟨[], by simp, fun x h => by cases h⟩
theorem strip_mem {l : List (Int × Int)} {x : Int × Int} (h : x ∈ strip l) : x ∈ l := by
  obtain ⟨r, e, _⟩ := strip_pre l
  rw [e]
  exact List.mem_append.mpr (.inl h)
theorem strip_len (l : List (Int × Int)) : (strip l).length ≤ l.length := by
  obtain ⟨r, e, _⟩ := strip_pre l
  have := congrArg List.length e
  rw [List.length_append] at this
  omega
theorem strip_id {l : List (Int × Int)} (h : ∀ r x, l = r ++ [x] → x.1 ≠ 0) : strip l = l := by
  rcases snoc_cases l with e | ⟨r, x, e⟩
  · rw [e]; rfl
  · have z := h r x e
    rw [e, strip_snoc, if_neg z]
/-- tuples of two whole numbers each, at their addresses -/
inductive Tups (H : Hp) : List Addr → List (Int × Int) → Prop
  | nil : Tups H [] []
  | cons {a : Addr} {as : List Addr} {p : Int × Int} {ps : List (Int × Int)} : H a = some (.tup [.int p.1, .int p.2]) → Tups H as ps → Tups H (a :: as) (p :: ps)
theorem Tups.len {H : Hp} : ∀ {as : List Addr} {ps : List (Int × Int)}, Tups H as ps → as.length = ps.length
  | _, _, .nil => rfl
  | _, _, .cons _ t => congrArg (· + 1) t.len
theorem Tups.imp {H H' : Hp} (e : ∀ (a : Addr) (p : Int × Int), H a = some (.tup [.int p.1, .int p.2]) → H' a = some (.tup [.int p.1, .int p.2])) : ∀ {as : List Addr} {ps : List (Int × Int)}, Tups H as ps → Tups H' as ps
  | _, _, .nil => .nil
  | _, _, .cons h t => .cons (e _ _ h) (t.imp e)
theorem Tups.same {H H' : Hp} (e : Same H H') {as : List Addr} {ps : List (Int × Int)} (h : Tups H as ps) : Tups H' as ps := h.imp fun a p q => e _ _ q
theorem Tups.snoc {H : Hp} : ∀ {as : List Addr} {ps : List (Int × Int)} {a : Addr} {p : Int × Int}, Tups H as ps → H a = some (.tup [.int p.1, .int p.2]) → Tups H (as ++ [a]) (ps ++ [p])
  | _, _, _, _, .nil, h => .cons h .nil
  | _, _, _, _, .cons h t, h2 => .cons h (t.snoc h2)
theorem Tups.unsnoc {H : Hp} : ∀ {as : List Addr} {ps : List (Int × Int)} {p : Int × Int}, Tups H as (ps ++ [p]) → ∃ as' a, as = as' ++ [a] ∧ Tups H as' ps ∧ H a = some (.tup [.int p.1, .int p.2])
  | _, [], _, .cons h .nil => ⟨[], _, rfl, .nil, h⟩
  | _, _ :: _, _, .cons h t => by
    obtain ⟨as', a, e, t', h'⟩ := t.unsnoc
    exact ⟨_ :: as', a, by rw [e]; rfl, .cons h t', h'⟩
theorem Tups.dts {K : PySem.W.Frag} {H : Hp} : ∀ {as : List Addr} {ps : List (Int × Int)}, Tups H as ps → Dts K H (as.map V.ref) (ps.map pairD)
  | _, _, .nil => .nil
  | _, _, .cons h t => .cons (.tup (SqT.of h) (.cons (.int _) (.cons (.int _) .nil))) t.dts
theorem Tups.app {H : Hp} : ∀ {as bs : List Addr} {ps qs : List (Int × Int)}, Tups H as ps → Tups H bs qs → Tups H (as ++ bs) (ps ++ qs)
  | _, _, _, _, .nil, h => h
  | _, _, _, _, .cons a t, h => .cons a (t.app h)
theorem Tups.take {H : Hp} : ∀ {as : List Addr} {ps : List (Int × Int)} (n : Nat), Tups H as ps → Tups H (as.take n) (ps.take n)
  | _, _, 0, _ => .nil
  | _, _, _ + 1, .nil => .nil
  | _, _, n + 1, .cons a t => .cons a (t.take n)
theorem Tups.at {H : Hp} : ∀ {as : List Addr} {ps : List (Int × Int)} {i : Nat} {a : Addr}, Tups H as ps → as[i]? = some a → ∃ p, ps[i]? = some p ∧ H a = some (.tup [.int p.1, .int p.2])
  | _, _, _, _, .nil, e => by simp at e
  | _, _, 0, _, .cons h _, e => by simp at e; subst e; exact ⟨_, rfl, h⟩
  | _, _, i + 1, a, .cons _ t, e => by
    obtain ⟨d, h1, h2⟩ := t.at (i := i) (a := a) (by simpa using e)
    exact ⟨d, by simpa using h1, h2⟩
theorem eqv_pair (p q : Int × Int) : PyData.eqv (pairD p) (pairD q) = decide (p = q) := by
  obtain ⟨a, b⟩ := p
  obtain ⟨c, d⟩ := q
  unfold pairD
  simp only [PyData.eqv, PyData.eqvAll, Bool.and_true]
  by_cases h1 : a = c <;> by_cases h2 : b = d <;> simp [h1, h2]
theorem eqvAll_pairs : ∀ l r : List (Int × Int), PyData.eqvAll (l.map pairD) (r.map pairD) = decide (l = r)
  | [], [] => by simp [PyData.eqvAll]
  | [], _ :: _ => by simp [PyData.eqvAll]
  | _ :: _, [] => by simp [PyData.eqvAll]
  | p :: l, q :: r => by
    simp only [List.map_cons, PyData.eqvAll, eqv_pair, eqvAll_pairs l r]
    by_cases h1 : p = q <;> by_cases h2 : l = r <;> simp [h1, h2]
theorem eqv_row (l r : List (Int × Int)) : PyData.eqv (.tuple (l.map pairD)) (.tuple (r.map pairD)) = decide (l = r) := by
  simp only [PyData.eqv]
  exact eqvAll_pairs l r
theorem eqv_rowL (l r : List (Int × Int)) : PyData.eqv (.list (l.map pairD)) (.list (r.map pairD)) = decide (l = r) := by
  simp only [PyData.eqv]
  exact eqvAll_pairs l r
theorem plain_pairs : ∀ l : List (Int × Int), PyData.plainAll (l.map pairD) = true
  | [] => by simp only [List.map_nil, PyData.plainAll]
  | p :: l => by
    simp only [List.map_cons, PyData.plainAll, plain_pairs l, pairD, PyData.plain, Bool.and_self]
theorem plain_row (l : List (Int × Int)) : (PyData.tuple (l.map pairD)).plain = true ∧ (PyData.list (l.map pairD)).plain = true := by
  simp only [PyData.plain]
  exact ⟨plain_pairs l, plain_pairs l⟩
theorem depth_pairs : ∀ l : List (Int × Int), PyData.depthAll (l.map pairD) ≤ 1
  | [] => by simp only [List.map_nil, PyData.depthAll]; omega
  | p :: l => by
    have h := depth_pairs l
    simp only [List.map_cons, PyData.depthAll, pairD, PyData.depth]
    exact Nat.max_le.mpr ⟨by simp, h⟩
theorem depth_row (l : List (Int × Int)) : (PyData.tuple (l.map pairD)).depth ≤ 60 ∧ (PyData.list (l.map pairD)).depth ≤ 60 := by
  have h := depth_pairs l
  simp only [PyData.depth]
  omega
/-- a comprehension over a list or a tuple -/
theorem lc_seq {K : PySem.W.Frag} {a : Addr} {xs : List V} {g : TG} {tt : TT} {te : TE} {vs : List Nat} {σ : L2.St} {H1 : Hp} {Qd : Addr → Hp → Prop} (h : SqL K H1 a xs ∨ SqT K H1 a xs) (Pv : Addr → Nat → Hp → Prop)
    (h0 : ∀ D, H1 D = none → Pv D 0 (upd H1 D (.lst []))) (hl : ∀ D i H, H1 D = none → Pv D i H → (SqL K H1 a xs → SqL K H a xs) ∧ (SqT K H1 a xs → SqT K H a xs))
    (hs : ∀ D i x H, H1 D = none → xs[i]? = some x → Pv D i H → g x (wipe σ vs) H fun σ2 H2 => wipe σ2 vs = wipe σ vs ∧ tt σ2 H2 fun b H3 =>
      if b = true then te σ2 H3 fun y H4 => ∃ acc, H4 D = some (.lst acc) ∧ acc.length < sizeLine ∧ Pv D (i + 1) (upd H4 D (.lst (acc ++ [y]))) else Pv D (i + 1) H3) (hd : ∀ D H, H1 D = none → Pv D xs.length H → Qd D H) :
    (∃ xs, SqL K H1 a xs ∧ ∀ D, H1 D = none → ∃ W : Nat → Nat → Hp → Prop, (∃ m, W 0 m (upd H1 D (.lst []))) ∧ ∀ i m H, W i m H →
      (((Itl K a).stop i H ∧ Qd D H) ∨ ((Itl K a).go i H ∧ ∃ Nx : Hp → Prop, (∀ H', Nx H' → ∃ m', m' < m ∧ W (i + 1) m' H') ∧ ∀ x H', (Itl K a).yld i H x H' → g x (wipe σ vs) H' fun σ2 H2 => wipe σ2 vs = wipe σ vs ∧ tt σ2 H2 fun b H3 =>
        if b = true then te σ2 H3 fun y H4 => ∃ acc, H4 D = some (.lst acc) ∧ acc.length < sizeLine ∧ Nx (upd H4 D (.lst (acc ++ [y]))) else Nx H3))) ∨
    (∃ xs, SqT K H1 a xs ∧ ∀ D, H1 D = none → ∃ W : Nat → Nat → Hp → Prop, (∃ m, W 0 m (upd H1 D (.lst []))) ∧ ∀ i m H, W i m H →
      (((Itt K a).stop i H ∧ Qd D H) ∨ ((Itt K a).go i H ∧ ∃ Nx : Hp → Prop, (∀ H', Nx H' → ∃ m', m' < m ∧ W (i + 1) m' H') ∧ ∀ x H', (Itt K a).yld i H x H' → g x (wipe σ vs) H' fun σ2 H2 => wipe σ2 vs = wipe σ vs ∧ tt σ2 H2 fun b H3 =>
        if b = true then te σ2 H3 fun y H4 => ∃ acc, H4 D = some (.lst acc) ∧ acc.length < sizeLine ∧ Nx (upd H4 D (.lst (acc ++ [y]))) else Nx H3))) := by
  rcases h with h | h
  · exact .inl ⟨xs, h, fun D hD => lc_list (K := K) (a := a) (xs := xs) (Pv D) (h0 D hD) (fun i H _ p => (hl D i H hD p).1 h) (fun i x H hi p => hs D i x H hD hi p) (fun H p => hd D H hD p)⟩
  · exact .inr ⟨xs, h, fun D hD => lc_tup (K := K) (a := a) (xs := xs) (Pv D) (h0 D hD) (fun i H _ p => (hl D i H hD p).2 h) (fun i x H hi p => hs D i x H hD hi p) (fun H p => hd D H hD p)⟩
theorem strip_strip (l : List (Int × Int)) : strip (strip l) = strip l := strip_id fun r x h => strip_last h
end Vf

set_option maxRecDepth 100000
set_option maxHeartbeats 4000000
/-! ratios and rows of them as numbers: the mathematics -/
namespace Vf
/-- a number as its pair -/
def pq (r : Rat) : Int × Int := (r.num, (r.den : Int))
theorem low_pq {t b : Int} (h : b ≠ 0) : low t b = pq (Rat.divInt t b) := by
  obtain ⟨x, y, e1, e2, hp, ho⟩ := sg_dvd (t := t) h
  have s := sg_ne (t := t) h
  have e : Rat.divInt t b = Rat.divInt x y := by
    calc Rat.divInt t b = Rat.divInt (sg t b * x) (sg t b * y) := by rw [← e1, ← e2]
      _ = Rat.divInt x y := Rat.divInt_mul_left s
  rw [low_eq h e1 e2, e]
  obtain ⟨n, rfl⟩ := Int.eq_ofNat_of_zero_le (Int.le_of_lt hp)
  have hn : n ≠ 0 := by omega
  have ho' : x.natAbs.Coprime n := ho
  have e2 : Rat.divInt x (n : Int) = ⟨x, n, hn, ho'⟩ := by
    rw [Rat.divInt_ofNat, Rat.mk_eq_mkRat]
  rw [e2]
  rfl
theorem pq_low (r : Rat) : Low (pq r).1 (pq r).2 := ⟨by have := r.den_pos; show (0 : Int) < (r.den : Int); omega, r.reduced⟩
theorem pq_inj {a b : Rat} (h : pq a = pq b) : a = b := by
  have h1 := congrArg Prod.fst h
  have h2 := congrArg Prod.snd h
  exact Rat.ext h1 (Int.ofNat.inj h2)
theorem low_is_pq {p : Int × Int} (h : Low p.1 p.2) : ∃ r : Rat, p = pq r := by
  refine ⟨Rat.divInt p.1 p.2, ?_⟩
  rw [← low_pq (by have := h.pos; omega), low_id h]
theorem cast_ne {M : Int} (h : M ≠ 0) : (M : Rat) ≠ 0 := fun z => h (by exact_mod_cast z)
theorem low_mul {A M : Int} {q : Rat} (hM : M ≠ 0) (h : q * (M : Rat) = (A : Rat)) : low A M = pq q := by
  rw [low_pq hM, Rat.divInt_eq_div]
  congr 1
  rw [← h, Rat.mul_div_cancel (cast_ne hM)]
theorem low_add (a b : Rat) : low (a.num * b.den + b.num * a.den) (a.den * b.den) = pq (a + b) := by
  have h : ((a.den : Int) * (b.den : Int)) ≠ 0 := by
    have := a.den_nz
    have := b.den_nz
    exact Int.mul_ne_zero (by omega) (by omega)
  rw [low_pq h, Rat.add_def', ← Rat.divInt_ofNat]
  congr 1
theorem low_times (a b : Rat) : low (a.num * b.num) (a.den * b.den) = pq (a * b) := by
  have h : ((a.den : Int) * (b.den : Int)) ≠ 0 := by
    have := a.den_nz
    have := b.den_nz
    exact Int.mul_ne_zero (by omega) (by omega)
  rw [low_pq h, Rat.mul_def', ← Rat.divInt_ofNat]
  congr 1
/-- a number is a whole part of 1 / M, at most N of them -/
def Fr (M N : Nat) (r : Rat) : Prop := ∃ n : Int, r * (M : Rat) = (n : Rat) ∧ n.natAbs ≤ N
theorem Fr.size {M N : Nat} {r : Rat} (hM : 0 < M) (h : Fr M N r) : r.num.natAbs ≤ N ∧ r.den ≤ M := by
  obtain ⟨n, e, hn⟩ := h
  have hM' : (M : Int) ≠ 0 := by omega
  have z := low_mul (A := n) (M := (M : Int)) (q := r) hM' (by exact_mod_cast e)
  obtain ⟨s1, s2⟩ := low_size (t := n) hM'
  rw [z] at s1 s2
  have s1 : r.num.natAbs ≤ n.natAbs := s1
  have s2 : (r.den : Int).natAbs ≤ (M : Int).natAbs := s2
  omega
theorem Fr.add {M N N' : Nat} {a b : Rat} (h : Fr M N a) (h' : Fr M N' b) : Fr M (N + N') (a + b) := by
  obtain ⟨n, e, hn⟩ := h
  obtain ⟨n', e', hn'⟩ := h'
  refine ⟨n + n', ?_, by omega⟩
  rw [Rat.add_mul, e, e']
  exact_mod_cast rfl
theorem Fr.mul {M N M' N' : Nat} {a b : Rat} (h : Fr M N a) (h' : Fr M' N' b) : Fr (M * M') (N * N') (a * b) := by
  obtain ⟨n, e, hn⟩ := h
  obtain ⟨n', e', hn'⟩ := h'
  refine ⟨n * n', ?_, ?_⟩
  · have : ((M * M' : Nat) : Rat) = (M : Rat) * (M' : Rat) := by exact_mod_cast rfl
    have h2 : ((n * n' : Int) : Rat) = (n : Rat) * (n' : Rat) := by exact_mod_cast rfl
    rw [this, h2, ← e, ← e']
    grind
  · rw [Int.natAbs_mul]
    exact Nat.mul_le_mul hn hn'
theorem Fr.neg {M N : Nat} {a : Rat} (h : Fr M N a) : Fr M N (-a) := by
  obtain ⟨n, e, hn⟩ := h
  refine ⟨-n, ?_, by omega⟩
  rw [Rat.neg_mul, e]
  exact_mod_cast rfl
theorem Fr.scale {M N : Nat} {a : Rat} (k : Nat) (h : Fr M N a) : Fr (M * k) (N * k) a := by
  obtain ⟨n, e, hn⟩ := h
  refine ⟨n * k, ?_, ?_⟩
  · have : ((M * k : Nat) : Rat) = (M : Rat) * (k : Rat) := by exact_mod_cast rfl
    have h2 : ((n * k : Int) : Rat) = (n : Rat) * (k : Rat) := by exact_mod_cast rfl
    rw [this, h2, ← e]
    grind
  · rw [Int.natAbs_mul, Int.natAbs_natCast]
    exact Nat.mul_le_mul_right _ hn
theorem Fr.zero (M N : Nat) : Fr M N 0 := ⟨0, by rw [Rat.zero_mul]; rfl, Nat.zero_le _⟩
theorem Fr.le {M N N' : Nat} {a : Rat} (h : Fr M N a) (e : N ≤ N') : Fr M N' a := by
  obtain ⟨n, e1, hn⟩ := h
  exact ⟨n, e1, by omega⟩
theorem Fr.self (r : Rat) : Fr r.den r.num.natAbs r := by
  refine ⟨r.num, ?_, Nat.le_refl _⟩
  have h : (r.den : Rat) ≠ 0 := by
    have := r.den_nz
    exact_mod_cast this
  have z : (r.num : Rat) / (r.den : Rat) = r := by
    have := Rat.num_divInt_den r
    rw [Rat.divInt_eq_div] at this
    exact_mod_cast this
  rw [← z]
  rw [z]
  have := Rat.div_mul_cancel (a := (r.num : Rat)) h
  rw [z] at this
  exact this
theorem Fr.dvd {M M' N : Nat} {a : Rat} (h : Fr M N a) (d : M ∣ M') : ∃ k, M' = M * k ∧ Fr M' (N * k) a := by
  obtain ⟨k, e⟩ := d
  exact ⟨k, e, by rw [e]; exact h.scale k⟩
/-- below 2 ^ 1900 above and below -/
def Sr (r : Rat) : Prop := r.num.natAbs < 2 ^ 1900 ∧ r.den < 2 ^ 1900
theorem Fr.sr {M N : Nat} {r : Rat} (hM : 0 < M) (h : Fr M N r) (h1 : M < 2 ^ 1900) (h2 : N < 2 ^ 1900) : Sr r := by
  obtain ⟨a, b⟩ := h.size hM
  exact ⟨Nat.lt_of_le_of_lt a h2, Nat.lt_of_le_of_lt b h1⟩
/-! ### rows -/
def cf (l : List Rat) (i : Nat) : Rat := l.getD i 0
theorem cf_lt {l : List Rat} {i : Nat} (h : i < l.length) : cf l i = l[i] := by
  unfold cf
  rw [List.getD_eq_getElem?_getD, List.getElem?_eq_getElem h]
  rfl
theorem cf_get {l : List Rat} {i : Nat} {x : Rat} (h : l[i]? = some x) : cf l i = x := by
  unfold cf
  rw [List.getD_eq_getElem?_getD, h]
  rfl
theorem cf_ge {l : List Rat} {i : Nat} (h : l.length ≤ i) : cf l i = 0 := by
  unfold cf
  rw [List.getD_eq_getElem?_getD, List.getElem?_eq_none h]
  rfl
theorem cf_nil (i : Nat) : cf [] i = 0 := rfl
theorem cf_app {l r : List Rat} {i : Nat} : cf (l ++ r) i = if i < l.length then cf l i else cf r (i - l.length) := by
  unfold cf
  rw [List.getD_eq_getElem?_getD, List.getD_eq_getElem?_getD, List.getD_eq_getElem?_getD]
  split
  · rw [List.getElem?_append_left (by assumption)]
  · rw [List.getElem?_append_right (by omega)]
/-- a row without zeros behind -/
def stripQ (l : List Rat) : List Rat := (l.reverse.dropWhile fun r => r == 0).reverse
theorem stripQ_snoc (l : List Rat) (x : Rat) : stripQ (l ++ [x]) = if x = 0 then stripQ l else l ++ [x] := by
  unfold stripQ
  rw [List.reverse_append]
  simp only [List.reverse_cons, List.reverse_nil, List.nil_append, List.singleton_append, List.dropWhile_cons, beq_iff_eq]
  split
  · rfl
  · rw [List.reverse_cons, List.reverse_reverse]
theorem strip_map (l : List Rat) : strip (l.map pq) = (stripQ l).map pq := by
  refine snoc_ind (P := fun l => strip (l.map pq) = (stripQ l).map pq) rfl (fun l x ih => ?_) l
  rw [List.map_append, List.map_cons, List.map_nil, strip_snoc, stripQ_snoc, ih]
  have e : ((pq x).1 = 0) ↔ x = 0 := Rat.num_eq_zero
  by_cases h : x = 0
  · rw [if_pos h, if_pos (e.mpr h)]
  · rw [if_neg h, if_neg (fun z => h (e.mp z)), List.map_append]
    rfl
theorem cf_stripQ (l : List Rat) : ∀ i, cf (stripQ l) i = cf l i := by
  refine snoc_ind (P := fun l => ∀ i, cf (stripQ l) i = cf l i) (fun i => rfl) (fun l x ih i => ?_) l
  rw [stripQ_snoc]
  split
  · rename_i h
    rw [ih, cf_app, h]
    split
    · rfl
    · rename_i h2
      rw [cf_ge (by omega)]
      by_cases h3 : i - l.length = 0
      · rw [h3]; rfl
      · rw [cf_ge (show ([0] : List Rat).length ≤ i - l.length by show 1 ≤ _; omega)]
  · rfl
/-- no zero behind -/
def Stp (l : List Rat) : Prop := ∀ r x, l = r ++ [x] → x ≠ 0
theorem stripQ_stp (l : List Rat) : Stp (stripQ l) := by
  refine snoc_ind (P := fun l => Stp (stripQ l)) (fun r x h => by simp [stripQ] at h) (fun l y ih r x h => ?_) l
  rw [stripQ_snoc] at h
  split at h
  · exact ih r x h
  · have z := (List.append_inj' h rfl).2
    cases z
    assumption
theorem stripQ_id {l : List Rat} (h : Stp l) : stripQ l = l := by
  rcases snoc_cases l with e | ⟨r, x, e⟩
  · rw [e]; rfl
  · have z := h r x e
    rw [e, stripQ_snoc, if_neg z]
theorem stp_last {l : List Rat} (h : Stp l) (hl : 0 < l.length) : cf l (l.length - 1) ≠ 0 := by
  rcases snoc_cases l with e | ⟨r, x, e⟩
  · rw [e] at hl; cases hl
  · have z := h r x e
    rw [e, List.length_append]
    show cf (r ++ [x]) (r.length + 1 - 1) ≠ 0
    rw [cf_app, if_neg (by omega)]
    rw [show r.length + 1 - 1 - r.length = 0 by omega]
    exact z
theorem stp_len {a b : List Rat} (h : Stp a) (e : ∀ i, cf a i = cf b i) : a.length ≤ b.length := by
  rcases Nat.lt_or_ge b.length a.length with z | z
  · have q := stp_last h (by omega)
    rw [e, cf_ge (by omega)] at q
    exact absurd rfl q
  · exact z
theorem stp_ext {a b : List Rat} (ha : Stp a) (hb : Stp b) (e : ∀ i, cf a i = cf b i) : a = b := by
  have h1 := stp_len ha e
  have h2 := stp_len hb fun i => (e i).symm
  refine List.ext_getElem (by omega) fun i p q => ?_
  have z := e i
  rw [cf_lt p, cf_lt q] at z
  exact z
theorem stripQ_ext {a b : List Rat} (e : ∀ i, cf a i = cf b i) : stripQ a = stripQ b :=
  stp_ext (stripQ_stp a) (stripQ_stp b) fun i => by rw [cf_stripQ, cf_stripQ, e]
/-- the row of n numbers -/
def tab (n : Nat) (f : Nat → Rat) : List Rat := (List.range n).map f
theorem tab_len (n : Nat) (f : Nat → Rat) : (tab n f).length = n := by unfold tab; rw [List.length_map, List.length_range]
theorem cf_tab (n : Nat) (f : Nat → Rat) (i : Nat) : cf (tab n f) i = if i < n then f i else 0 := by
  by_cases h : i < n
  · rw [if_pos h]
    refine cf_get ?_
    unfold tab
    rw [List.getElem?_map, List.getElem?_range h]
    rfl
  · rw [if_neg h, cf_ge (by rw [tab_len]; omega)]
theorem tab_snoc (n : Nat) (f : Nat → Rat) : tab (n + 1) f = tab n f ++ [f n] := by
  unfold tab
  rw [List.range_succ, List.map_append]
  rfl
def padd (a b : List Rat) : List Rat := tab (max a.length b.length) fun i => cf a i + cf b i
theorem cf_padd (a b : List Rat) (i : Nat) : cf (padd a b) i = cf a i + cf b i := by
  unfold padd
  rw [cf_tab]
  split
  · rfl
  · rw [cf_ge (show a.length ≤ i by omega), cf_ge (show b.length ≤ i by omega), Rat.add_zero]
def pscale (a : List Rat) (c : Rat) : List Rat := a.map (· * c)
theorem cf_map {f : Rat → Rat} (hf : f 0 = 0) (a : List Rat) (i : Nat) : cf (a.map f) i = f (cf a i) := by
  by_cases h : i < a.length
  · rw [cf_lt (by rw [List.length_map]; exact h), cf_lt h, List.getElem_map]
  · rw [cf_ge (by rw [List.length_map]; omega), cf_ge (by omega), hf]
/-- sums -/
def sm (f : Nat → Rat) : Nat → Rat
  | 0 => 0
  | n + 1 => sm f n + f n
theorem sm_ext {f g : Nat → Rat} : ∀ {n : Nat}, (∀ i, i < n → f i = g i) → sm f n = sm g n
  | 0, _ => rfl
  | n + 1, h => by
    show sm f n + f n = sm g n + g n
    rw [sm_ext fun i hi => h i (by omega), h n (by omega)]
theorem sm_zero {f : Nat → Rat} : ∀ {n : Nat}, (∀ i, i < n → f i = 0) → sm f n = 0
  | 0, _ => rfl
  | n + 1, h => by
    show sm f n + f n = 0
    rw [sm_zero fun i hi => h i (by omega), h n (by omega), Rat.add_zero]
theorem sm_more {f : Nat → Rat} {n : Nat} : ∀ {m : Nat}, n ≤ m → (∀ i, n ≤ i → i < m → f i = 0) → sm f m = sm f n
  | 0, h, _ => by
    have : n = 0 := by omega
    rw [this]
  | m + 1, h, z => by
    by_cases e : n = m + 1
    · rw [e]
    · show sm f m + f m = sm f n
      rw [sm_more (m := m) (by omega) fun i h1 h2 => z i h1 (by omega), z m (by omega) (by omega), Rat.add_zero]
theorem sm_fr {f : Nat → Rat} {M N : Nat} : ∀ {n : Nat}, (∀ i, i < n → Fr M N (f i)) → Fr M (n * N) (sm f n)
  | 0, _ => Fr.zero _ _
  | n + 1, h => by
    have a := sm_fr (n := n) fun i hi => h i (by omega)
    have b := h n (by omega)
    have c := a.add b
    rw [Nat.succ_mul]
    exact c
/-- the number of a power in a product -/
def pc (a b : List Rat) (k : Nat) : Rat := sm (fun i => cf a i * cf b (k - i)) (k + 1)
def pmul (a b : List Rat) : List Rat := tab (a.length + b.length - 1) (pc a b)
theorem pc_zero {a b : List Rat} {k : Nat} (h : a.length + b.length ≤ k + 1) : pc a b k = 0 := by
  unfold pc
  refine sm_zero fun i hi => ?_
  by_cases h1 : i < a.length
  · rw [cf_ge (show b.length ≤ k - i by omega), Rat.mul_zero]
  · rw [cf_ge (show a.length ≤ i by omega), Rat.zero_mul]
theorem cf_pmul (a b : List Rat) (k : Nat) : cf (pmul a b) k = pc a b k := by
  unfold pmul
  rw [cf_tab]
  split
  · rfl
  · rw [pc_zero (by omega)]
end Vf

set_option maxRecDepth 100000
set_option maxHeartbeats 4000000
/-! rules: lcm; + - * of an object of a class with anything -/
namespace PySem.W
open PySem PySem.Spec PyProof.Rows
section
variable {prog : Program} {w : World} {A : Around} {E : Value → Shared → Prop} {s : Shared} {K : Frag} {x C L f g : Addr} {h₀ : Heap} {m : Str → Option Value} {ox : Obj} {od : Option Obj}
/-- whether a built-in type has a slot for the operator -/
def slotB (r1 r2 : Option Value) : Bool := (r1.isSome && !isSeqSlot r1) || (r2.isSome && !isSeqSlot r2)
theorem fills_type {M : Model} {h : Heap} {nm t : String} {r1 r2 : Option Value} (X : K.In h) (h1 : findIn K (.type t) (PySem.dunder nm) = some r1) (h2 : findIn K (.type t) (PySem.dunderR nm) = some r2) : Looks M h (fillsNumberSlot (.type t) nm) (slotB r1 r2) := by
  intro A Q E s k q
  unfold fillsNumberSlot
  refine wpAny_bind (looks_findIn X h1 A _ E s k ?_)
  refine wpAny_bind (looks_findIn X h2 A _ E s k ?_)
  exact wpAny_pure q
theorem own_slot {M : Model} {h : Heap} {nm : String} (X : K.In h) (hs : findIn K (.ref C) (PySem.dunder nm) = some (some (.ref f))) (hR : findIn K (.ref C) (PySem.dunderR nm) = some (some (.ref g))) : Looks M h (numberSlotInPython (.ref C) nm) true := by
  intro A Q E s k q
  unfold numberSlotInPython
  refine wpAny_bind (looks_findIn X hs A _ E s k ?_)
  refine wpAny_bind (wpAny_pure ?_)
  refine wpAny_bind (looks_findIn X hR A _ E s k ?_)
  refine wpAny_bind (wpAny_pure ?_)
  exact wpAny_pure q
theorem type_slot {M : Model} {h : Heap} {nm t : String} : Looks M h (numberSlotInPython (.type t) nm) false := by
  intro A Q E s k q
  unfold numberSlotInPython
  exact wpAny_pure q
/-- left an object of the class at C, right of a built-in type -/
theorem binop_left {op : Operator} {b : Value} {t : String} {r1 r2 : Option Value} {Q : Value → Shared → Prop} (F : Fr h₀ L s.heap m) (X₀ : K.In h₀) (I : InstAt s.heap x ox C od) (hb : Looks (model prog w) s.heap (typeOf b) (.type t)) (hc : selfFirst K C = true)
    (hs : findIn K (.ref C) (PySem.dunder op.info.2) = some (some (.ref f))) (hf : isFn K (.ref f) = true) (hR : findIn K (.ref C) (PySem.dunderR op.info.2) = some (some (.ref g)))
    (h1 : findIn K (.type t) (PySem.dunder op.info.2) = some r1) (h2 : findIn K (.type t) (PySem.dunderR op.info.2) = some r2) (sub : subIn K (.type t) (.ref C) = some false)
    (h : wpAny (model prog w) A (call (.ref f) [.ref x, b]) (CmpBack Q) E s) : wpAny (model prog w) A (binaryOp op (.ref x) b) Q E s := by
  have X := X₀.keeps F.keep
  obtain ⟨cd, hcd, hm⟩ := any_some hc
  obtain ⟨rest, hm⟩ : ∃ rest, cd.mro = .ref C :: rest := by
    cases q : cd.mro with
    | nil => rw [q] at hm; cases hm
    | cons a r => rw [q] at hm; exact ⟨r, by rw [List.head?_cons] at hm; cases (beq_iff_eq.mp hm); rfl⟩
  unfold binaryOp
  refine wpAny_holding (wpAny_bind ?_)
  unfold binaryOp1
  refine wpAny_bind (I.type.here (wpAny_bind (hb.here (wpAny_bind ((fills_K X hcd hm hs).here ?_)))))
  have ne : (Value.ref C == Value.type t) = false := by rfl
  simp only [ne, if_neg Bool.false_ne_true]
  refine wpAny_bind ((fills_type X h1 h2).here ?_)
  have fin : wpAny (model prog w) A (tryMethod (.ref x) (PySem.dunder op.info.2) b) (fun r s' => ∃ v, r = some v ∧ Q v s') E s := by
    unfold tryMethod
    refine wpAny_bind (special_fn X I hs (beq_iff_eq.mp hf) (wpAny_mono h (fun v s' hv => ?_) fun _ _ e => e))
    cases v <;> first | exact hv.elim | exact wpAny_pure ⟨_, rfl, hv⟩
  cases hsl : slotB r1 r2 with
  | false =>
    simp only [Bool.and_false, Bool.false_eq_true, if_false, Bool.false_and]
    refine wpAny_bind (wpAny_pure ?_)
    simp only [Bool.false_eq_true, if_false]
    refine wpAny_bind (wpAny_mono fin (fun r s' z => ?_) fun _ _ e => e)
    obtain ⟨v, rfl, q⟩ := z
    exact wpAny_pure (wpAny_pure q)
  | true =>
    simp only [Bool.and_self, if_true]
    refine wpAny_bind ((looks_subIn X sub).here ?_)
    simp only [Bool.false_eq_true, if_false, Bool.not_false, Bool.and_self, if_true]
    refine wpAny_bind ((own_slot X hs hR).here ?_)
    simp only [if_true]
    refine wpAny_bind ((type_slot).here ?_)
    simp only [Bool.not_false, if_true]
    refine wpAny_bind ((looks_findIn X h2).here ?_)
    refine wpAny_bind (wpAny_mono fin (fun r s' z => ?_) fun _ _ e => e)
    obtain ⟨v, rfl, q⟩ := z
    exact wpAny_pure (wpAny_pure q)
/-- left of a built-in type without such a slot, right an object of the class at C -/
theorem binop_right {op : Operator} {a : Value} {t : String} {r1 r2 : Option Value} {Q : Value → Shared → Prop} (F : Fr h₀ L s.heap m) (X₀ : K.In h₀) (I : InstAt s.heap x ox C od) (ha : Looks (model prog w) s.heap (typeOf a) (.type t)) (hc : selfFirst K C = true)
    (hs : findIn K (.ref C) (PySem.dunder op.info.2) = some (some (.ref f))) (hR : findIn K (.ref C) (PySem.dunderR op.info.2) = some (some (.ref g))) (hg : isFn K (.ref g) = true)
    (h1 : findIn K (.type t) (PySem.dunder op.info.2) = some r1) (h2 : findIn K (.type t) (PySem.dunderR op.info.2) = some r2) (sub : subIn K (.ref C) (.type t) = some false)
    (hl : slotB r1 r2 = true → ∀ (Q : Option Value → Shared → Prop), Q none s → wpAny (model prog w) A (tryMethod a (PySem.dunder op.info.2) (.ref x)) Q E s)
    (h : wpAny (model prog w) A (call (.ref g) [.ref x, a]) (CmpBack Q) E s) : wpAny (model prog w) A (binaryOp op a (.ref x)) Q E s := by
  have X := X₀.keeps F.keep
  obtain ⟨cd, hcd, hm⟩ := any_some hc
  obtain ⟨rest, hm⟩ : ∃ rest, cd.mro = .ref C :: rest := by
    cases q : cd.mro with
    | nil => rw [q] at hm; cases hm
    | cons a r => rw [q] at hm; exact ⟨r, by rw [List.head?_cons] at hm; cases (beq_iff_eq.mp hm); rfl⟩
  have fin : wpAny (model prog w) A (tryMethod (.ref x) (PySem.dunderR op.info.2) a) (fun r s' => ∃ v, r = some v ∧ Q v s') E s := by
    unfold tryMethod
    refine wpAny_bind (special_fn X I hR (beq_iff_eq.mp hg) (wpAny_mono h (fun v s' hv => ?_) fun _ _ e => e))
    cases v <;> first | exact hv.elim | exact wpAny_pure ⟨_, rfl, hv⟩
  unfold binaryOp
  refine wpAny_holding (wpAny_bind ?_)
  unfold binaryOp1
  refine wpAny_bind (ha.here (wpAny_bind (I.type.here (wpAny_bind ((fills_type X h1 h2).here ?_)))))
  have ne : (Value.type t == Value.ref C) = false := by rfl
  simp only [ne, if_neg Bool.false_ne_true]
  refine wpAny_bind ((fills_K X hcd hm hs).here ?_)
  cases hsl : slotB r1 r2 with
  | false =>
    simp only [Bool.and_false, Bool.false_eq_true, if_false, Bool.false_and]
    refine wpAny_bind (wpAny_pure ?_)
    simp only [Bool.false_eq_true, if_false, Bool.not_false, Bool.and_self, if_true]
    refine wpAny_bind (wpAny_mono fin (fun r s' z => ?_) fun _ _ e => e)
    obtain ⟨v, rfl, q⟩ := z
    first
      | exact wpAny_bind (wpAny_rule (wpAny_pure (wpAny_pure q)))
      | exact wpAny_rule (wpAny_pure (wpAny_pure q))
  | true =>
    simp only [Bool.and_self, if_true]
    refine wpAny_bind ((looks_subIn X sub).here ?_)
    simp only [Bool.false_eq_true, if_false, Bool.not_false, Bool.and_self, if_true]
    refine wpAny_bind ((type_slot).here ?_)
    simp only [Bool.false_eq_true, if_false]
    refine wpAny_bind (hl hsl _ ?_)
    refine wpAny_bind (wpAny_mono fin (fun r s' z => ?_) fun _ _ e => e)
    obtain ⟨v, rfl, q⟩ := z
    first
      | exact wpAny_bind (wpAny_rule (wpAny_pure (wpAny_pure q)))
      | exact wpAny_rule (wpAny_pure (wpAny_pure q))
/-- - of an object of the class at C -/
theorem neg_own {Q : Value → Shared → Prop} (F : Fr h₀ L s.heap m) (X₀ : K.In h₀) (I : InstAt s.heap x ox C od) (hs : findIn K (.ref C) "__neg__" = some (some (.ref f))) (hf : isFn K (.ref f) = true)
    (h : wpAny (model prog w) A (call (.ref f) [.ref x]) Q E s) : wpAny (model prog w) A (unaryOp .USub (.ref x)) Q E s := by
  have X := X₀.keeps F.keep
  unfold unaryOp
  refine wpAny_holding ?_
  refine wpAny_ite_false (by rfl) ?_
  refine wpAny_bind (special_fn X I hs (beq_iff_eq.mp hf) (wpAny_mono h (fun v s' hv => ?_) fun _ _ e => e))
  exact wpAny_pure hv
end
end PySem.W

set_option maxRecDepth 100000
set_option maxHeartbeats 4000000
namespace PySem.W
open PySem PySem.Spec PyProof.Rows
section
variable {prog : Program} {w : World} {A : Around} {E : Value → Shared → Prop} {s : Shared} {x C dx : Addr} {i : Int} {t : Tok}
theorem intBinary_none {name : String} {f : Int → Int → Sem Fin} {R : Fin → Shared → Prop} (hs : slotArgs name 1 ⟨[.int i t, .ref x], []⟩ = pure (Value.int i t, [Value.ref x])) (hx : s.heap.get? x = some (instObj C dx)) (h : R (.done (.ret .notImplemented)) s) :
    wpAny (model prog w) A (Builtin.Int.intBinary name f false ⟨[.int i t, .ref x], []⟩) R E s := by
  unfold Builtin.Int.intBinary
  refine wpAny_bind (wpAny_of_eq hs ?_)
  refine wpAny_bind (wpAny_of_eq (a := i) rfl ?_)
  show wpAny (model prog w) A (asInt? (.ref x) >>= _) _ _ _
  unfold asInt?
  refine wpAny_bind (wpAny_bind (wpAny_load hx (wpAny_pure ?_)))
  first
    | exact wpAny_bind (wpAny_rule (wpAny_pure h))
    | exact wpAny_rule (wpAny_pure h)
theorem int_none {nm : Str} {id : String} {Q : Option Value → Shared → Prop} (sl : Slot "int" nm id) (y : wpAny (model prog w) A (call (.builtin id) [.int i t, .ref x]) (fun v s' => v = .notImplemented ∧ Q none s') E s) : wpAny (model prog w) A (tryMethod (.int i t) nm (.ref x)) Q E s := by
  have ty : s.TypeIs (.int i t) "int" := typeIs_int _ _ _
  unfold tryMethod
  refine wpAny_bind ?_
  refine wpAny_mono (wpAny_callSpecial?_slot (Q := fun v s' => v = some .notImplemented ∧ Q none s') ty sl (wpAny_mono y (fun v s' z => ?_) fun _ _ e => e)) (fun v s' z => ?_) fun _ _ e => e
  · obtain ⟨rfl, q⟩ := z
    exact ⟨rfl, q⟩
  · obtain ⟨rfl, q⟩ := z
    exact wpAny_pure q
theorem int_add_none {Q : Option Value → Shared → Prop} (hx : s.heap.get? x = some (instObj C dx)) (h : Q none s) : wpAny (model prog w) A (tryMethod (.int i t) (PySem.dunder "add") (.ref x)) Q E s := by
  have ha : argsOk "int.__add__" ⟨[.int i t, .ref x], []⟩ := PySem.F.args_int_add_2 _ _
  have ty : s.TypeIs (.int i t) "int" := typeIs_int _ _ _
  have y : wpAny (model prog w) A (call (.builtin "int.__add__") [.int i t, .ref x]) (fun v s' => v = .notImplemented ∧ Q none s') E s := by
    refine wpAny_call_entry (b := Builtin.«int.__add__») (T := "int") (name := PySem.dunder "add") (id := "int.__add__") PySem.F.slot_int_add ty PySem.F.entry_int_add ?_ ha
    exact intBinary_none (name := "__add__") (by rfl) hx ⟨_, rfl, rfl, h⟩
  have sl : Slot "int" (PySem.dunder "add") "int.__add__" := PySem.F.slot_int_add
  generalize PySem.dunder "add" = nm at sl ⊢
  exact int_none sl y
theorem int_sub_none {Q : Option Value → Shared → Prop} (hx : s.heap.get? x = some (instObj C dx)) (h : Q none s) : wpAny (model prog w) A (tryMethod (.int i t) (PySem.dunder "sub") (.ref x)) Q E s := by
  have ha : argsOk "int.__sub__" ⟨[.int i t, .ref x], []⟩ := PySem.F.args_int_sub_2 _ _
  have ty : s.TypeIs (.int i t) "int" := typeIs_int _ _ _
  have y : wpAny (model prog w) A (call (.builtin "int.__sub__") [.int i t, .ref x]) (fun v s' => v = .notImplemented ∧ Q none s') E s := by
    refine wpAny_call_entry (b := Builtin.«int.__sub__») (T := "int") (name := PySem.dunder "sub") (id := "int.__sub__") PySem.F.slot_int_sub ty PySem.F.entry_int_sub ?_ ha
    exact intBinary_none (name := "__sub__") (by rfl) hx ⟨_, rfl, rfl, h⟩
  have sl : Slot "int" (PySem.dunder "sub") "int.__sub__" := PySem.F.slot_int_sub
  generalize PySem.dunder "sub" = nm at sl ⊢
  exact int_none sl y
theorem int_mul_none {Q : Option Value → Shared → Prop} (hx : s.heap.get? x = some (instObj C dx)) (h : Q none s) : wpAny (model prog w) A (tryMethod (.int i t) (PySem.dunder "mul") (.ref x)) Q E s := by
  have ha : argsOk "int.__mul__" ⟨[.int i t, .ref x], []⟩ := PySem.F.args_int_mul_2 _ _
  have ty : s.TypeIs (.int i t) "int" := typeIs_int _ _ _
  have y : wpAny (model prog w) A (call (.builtin "int.__mul__") [.int i t, .ref x]) (fun v s' => v = .notImplemented ∧ Q none s') E s := by
    refine wpAny_call_entry (b := Builtin.«int.__mul__») (T := "int") (name := PySem.dunder "mul") (id := "int.__mul__") PySem.F.slot_int_mul ty PySem.F.entry_int_mul ?_ ha
    exact intBinary_none (name := "__mul__") (by rfl) hx ⟨_, rfl, rfl, h⟩
  have sl : Slot "int" (PySem.dunder "mul") "int.__mul__" := PySem.F.slot_int_mul
  generalize PySem.dunder "mul" = nm at sl ⊢
  exact int_none sl y
end
end PySem.W

set_option maxRecDepth 100000
set_option maxHeartbeats 4000000
/-! rules: + - * and the sign, of an object of a class; lcm -/
namespace Vf
open PySem PySem.Spec PyProof.Rows L2
theorem dun_add : PySem.dunder "add" = ("__add__" : Str) := by decide +kernel
theorem dun_sub : PySem.dunder "sub" = ("__sub__" : Str) := by decide +kernel
theorem dun_mul : PySem.dunder "mul" = ("__mul__" : Str) := by decide +kernel
theorem dunR_add : PySem.dunderR "add" = ("__radd__" : Str) := by decide +kernel
theorem dunR_sub : PySem.dunderR "sub" = ("__rsub__" : Str) := by decide +kernel
theorem dunR_mul : PySem.dunderR "mul" = ("__rmul__" : Str) := by decide +kernel
def slotT (t nm : String) : Option Bool := match PySem.fastLookup t (PySem.dunder nm), PySem.fastLookup t (PySem.dunderR nm) with
  | some a, some b => some (PySem.W.slotB a b)
  | _, _ => none
theorem slotT_ok {K : PySem.W.Frag} {t nm : String} {b : Bool} (h : slotT t nm = some b) : ∃ r1 r2, PySem.W.findIn K (.type t) (PySem.dunder nm) = some r1 ∧ PySem.W.findIn K (.type t) (PySem.dunderR nm) = some r2 ∧ PySem.W.slotB r1 r2 = b := by
  unfold slotT at h
  split at h
  · rename_i a c e1 e2
    cases h
    exact ⟨a, c, e1, e2, rfl⟩
  · cases h
theorem slot_tup_add : slotT "tuple" "add" = some false := by decide +kernel
theorem slot_tup_sub : slotT "tuple" "sub" = some false := by decide +kernel
theorem slot_tup_mul : slotT "tuple" "mul" = some false := by decide +kernel
theorem slot_int_add : slotT "int" "add" = some true := by decide +kernel
theorem slot_int_sub : slotT "int" "sub" = some true := by decide +kernel
theorem slot_int_mul : slotT "int" "mul" = some true := by decide +kernel
section
variable {X : Cx} {CX : CXT} {C f g : Addr} {k : Nat} {fd : FuncData} {ps : List Str} {sp : Sp} {E : XK}
/-- the callee's answer is no mark of a missing operator -/
theorem back {pins : List (Addr × Obj)} {σ : L2.St} {Q : VK} {z : Value} {s' : Shared} (h : EP X pins σ Q z s') : PySem.W.CmpBack (EP X pins σ Q) z s' := by
  obtain ⟨z', H', I', rz, qz⟩ := h
  exact SlX.cmpback rz ⟨z', H', I', rz, qz⟩
def rOwnS (C : Addr) (sp : Sp) (E : XK) : R2 := fun x y H Q => ∃ a dx fs b dy gs, x = .ref a ∧ y = .ref b ∧ H a = some (.ins C dx fs) ∧ H b = some (.ins C dy gs) ∧ sp [x, y] H Q E
theorem op_ownS {op : Operator} (hs : PySem.W.findIn X.K (.ref C) (PySem.dunder op.info.2) = some (some (.ref g))) (hf : PySem.W.isFn X.K (.ref g) = true) (sf : PySem.W.selfFirst X.K C = true)
    (F : FnOk X.prog X.w X.K X.mg X.base CX k g fd ps sp) (hb : Binds X.K fd ps []) (hr : Room k X.A) (hx : Passes CX X E) : OpR X (binaryOp op) (rOwnS C sp E) := by
  intro pins s σ H x y v u Q I rx ry h
  obtain ⟨a, dx, fs, b, dy, gs, rfl, rfl, ha, hb', q⟩ := h
  cases (show v = Value.ref a from rx)
  cases (show u = Value.ref b from ry)
  obtain ⟨mA, O, _⟩ := ins_get I.hok ha
  obtain ⟨od, J, _⟩ := O.look
  obtain ⟨mB, O2, _⟩ := ins_get I.hok hb'
  obtain ⟨od2, J2, _⟩ := O2.look
  obtain ⟨m, hF⟩ := I.fr
  have hsp : sp ([V.ref a, V.ref b] ++ []) H Q E := q
  exact PySem.W.binop_K hF I.ok.mod.kin J J2.type sf hs hf (wpAny_mono (run_fn (us := [.ref a, .ref b]) (vs := [.ref a, .ref b]) F hr hb .nil hx I (.cons rfl (.cons rfl .nil)) hsp) (fun w s' z => back z) fun _ _ x => x)
def rOwnL (K : PySem.W.Frag) (C : Addr) (t : String) (sp : Sp) (E : XK) : R2 := fun x y H Q => ∃ a dx fs, x = .ref a ∧ H a = some (.ins C dx fs) ∧ TyX K H y (.type t) ∧ sp [x, y] H Q E
theorem op_ownL {op : Operator} {t : String} {rb : Bool} (hs : PySem.W.findIn X.K (.ref C) (PySem.dunder op.info.2) = some (some (.ref g))) (hf : PySem.W.isFn X.K (.ref g) = true) (sf : PySem.W.selfFirst X.K C = true)
    (hR : PySem.W.findIn X.K (.ref C) (PySem.dunderR op.info.2) = some (some (.ref f))) (st : slotT t op.info.2 = some rb) (sub : PySem.W.subIn X.K (.type t) (.ref C) = some false)
    (F : FnOk X.prog X.w X.K X.mg X.base CX k g fd ps sp) (hb : Binds X.K fd ps []) (hr : Room k X.A) (hx : Passes CX X E) : OpR X (binaryOp op) (rOwnL X.K C t sp E) := by
  intro pins s σ H x y v u Q I rx ry h
  obtain ⟨a, dx, fs, rfl, ha, ty, q⟩ := h
  cases (show v = Value.ref a from rx)
  obtain ⟨mA, O, _⟩ := ins_get I.hok ha
  obtain ⟨od, J, _⟩ := O.look
  obtain ⟨P, Z, p, _⟩ := kit_of I ry ty
  obtain ⟨m, hF⟩ := I.fr
  obtain ⟨r1, r2, h1, h2, _⟩ := slotT_ok (K := X.K) st
  have hsp : sp ([V.ref a, y] ++ []) H Q E := q
  exact PySem.W.binop_left hF I.ok.mod.kin J (Z.ty _ _ I.kIn p) sf hs hf hR h1 h2 sub (wpAny_mono (run_fn (us := [.ref a, u]) (vs := [.ref a, y]) F hr hb .nil hx I (.cons rfl (.cons ry .nil)) hsp) (fun w s' z => back z) fun _ _ x => x)
def rOwnR (K : PySem.W.Frag) (C : Addr) (t : String) (sp : Sp) (E : XK) : R2 := fun x y H Q => ∃ a dx fs, y = .ref a ∧ H a = some (.ins C dx fs) ∧ TyX K H x (.type t) ∧ sp [y, x] H Q E
/-- what the left side's own slot says of an object: nothing -/
def LeftNone (t : String) (op : Operator) : Prop := ∀ {prog : Program} {w : World} {A : Around} {E : Value → Shared → Prop} {s : Shared} {x : Addr} {C dx : Addr} {H : Hp} {K : PySem.W.Frag} {y : V} {v : Value}, TyX K H y (.type t) → RelV y v → s.heap.get? x = some (PySem.W.instObj C dx) → ∀ (Q : Option Value → Shared → Prop), Q none s → wpAny (model prog w) A (tryMethod v (PySem.dunder op.info.2) (.ref x)) Q E s
theorem op_ownR {op : Operator} {t : String} {rb : Bool} (hs : PySem.W.findIn X.K (.ref C) (PySem.dunder op.info.2) = some (some (.ref f))) (sf : PySem.W.selfFirst X.K C = true)
    (hR : PySem.W.findIn X.K (.ref C) (PySem.dunderR op.info.2) = some (some (.ref g))) (hg : PySem.W.isFn X.K (.ref g) = true) (st : slotT t op.info.2 = some rb) (sub : PySem.W.subIn X.K (.ref C) (.type t) = some false) (ln : rb = true → LeftNone t op)
    (F : FnOk X.prog X.w X.K X.mg X.base CX k g fd ps sp) (hb : Binds X.K fd ps []) (hr : Room k X.A) (hx : Passes CX X E) : OpR X (binaryOp op) (rOwnR X.K C t sp E) := by
  intro pins s σ H x y v u Q I rx ry h
  obtain ⟨a, dx, fs, rfl, ha, ty, q⟩ := h
  cases (show u = Value.ref a from ry)
  obtain ⟨mA, O, _⟩ := ins_get I.hok ha
  obtain ⟨od, J, _⟩ := O.look
  obtain ⟨_, _, _, ob, _⟩ := (show ObjOk X.prog X.w H s.heap a (.ins C dx fs) from I.hok a _ ha)
  obtain ⟨P, Z, p, _⟩ := kit_of I rx ty
  obtain ⟨m, hF⟩ := I.fr
  obtain ⟨r1, r2, h1, h2, e⟩ := slotT_ok (K := X.K) st
  have hsp : sp ([V.ref a, x] ++ []) H Q E := q
  exact PySem.W.binop_right hF I.ok.mod.kin J (Z.ty _ _ I.kIn p) sf hs hR hg h1 h2 sub (fun z Q' q' => ln (e.symm.trans z) ty rx ob Q' q')
    (wpAny_mono (run_fn (us := [.ref a, v]) (vs := [.ref a, x]) F hr hb .nil hx I (.cons rfl (.cons rx .nil)) hsp) (fun w s' z => back z) fun _ _ x => x)
theorem left_int {op : Operator} (h : op = .Add ∨ op = .Sub ∨ op = .Mult) : LeftNone "int" op := by
  intro prog w A E s x C dx H K y v ty rv hx Q q
  have key : ∀ {T : Value}, TyX K H y T → T = .type "int" → ∃ i, y = V.int i := fun {T} ty e => by
    cases ty with
    | base b =>
      cases b with
      | int i => exact ⟨i, rfl⟩
      | ins _ _ _ _ _ _ => cases e
      | _ => exact absurd (Value.type.inj e) (by decide)
    | _ => exact absurd (Value.type.inj e) (by decide)
  obtain ⟨i, rfl⟩ := key ty rfl
  obtain ⟨t, rfl⟩ := (show ∃ t, v = Value.int i t from rv)
  rcases h with rfl | rfl | rfl
  · exact PySem.W.int_add_none hx q
  · exact PySem.W.int_sub_none hx q
  · exact PySem.W.int_mul_none hx q
def rNegO (C : Addr) (sp : Sp) (E : XK) : V → Hp → VK → Prop := fun x H Q => ∃ a dx fs, x = .ref a ∧ H a = some (.ins C dx fs) ∧ sp [x] H Q E
theorem un_negO (hs : PySem.W.findIn X.K (.ref C) "__neg__" = some (some (.ref g))) (hf : PySem.W.isFn X.K (.ref g) = true) (F : FnOk X.prog X.w X.K X.mg X.base CX k g fd ps sp) (hb : Binds X.K fd ps []) (hr : Room k X.A) (hx : Passes CX X E) : UnR X (unaryOp .USub) (rNegO C sp E) := by
  intro pins s σ H x v Q I rx h
  obtain ⟨a, dx, fs, rfl, ha, q⟩ := h
  cases (show v = Value.ref a from rx)
  obtain ⟨mA, O, _⟩ := ins_get I.hok ha
  obtain ⟨od, J, _⟩ := O.look
  obtain ⟨m, hF⟩ := I.fr
  have hsp : sp ([V.ref a] ++ []) H Q E := q
  exact PySem.W.neg_own hF I.ok.mod.kin J hs hf (run_fn (us := [.ref a]) (vs := [.ref a]) F hr hb .nil hx I (.cons rfl .nil) hsp)
/-- math.lcm of two whole numbers -/
def rLcm : List V → Hp → VK → Prop := fun vs H Q => ∃ a b : Int, vs = [.int a, .int b] ∧ a.natAbs < 2 ^ 4000 ∧ b.natAbs < 2 ^ 4000 ∧ Q (.int ((Nat.lcm a.natAbs b.natAbs : Nat) : Int)) H
theorem log_4000 {n : Nat} (h : n < 2 ^ 4000) : n.log2 < 4000 := by
  by_cases e : n = 0
  · rw [e]; decide
  · exact (Nat.log2_lt e).mpr h
theorem cr_lcm : CallR X (.builtin "math.lcm") rLcm := by
  intro pins s σ H vs us Q I r h
  obtain ⟨a, b, rfl, ha, hb, q⟩ := h
  obtain ⟨t, u, rfl⟩ := Vals.int2 r
  have one : Nat.lcm 1 a.natAbs = a.natAbs := Nat.lcm_one_left _
  have m1 : max 1 a.natAbs < 2 ^ 4000 := by
    have : (1 : Nat) < 2 ^ 4000 := Nat.one_lt_pow (by decide) (by decide)
    omega
  have m2 : max a.natAbs b.natAbs < 2 ^ 4000 := by omega
  have l1 := log_4000 m1
  have l2 := log_4000 m2
  have sz : ((((Nat.lcm 1 a.natAbs).lcm b.natAbs : Nat) : Int)).natAbs.log2 < bitsLine := by
    rw [one, Int.natAbs_natCast]
    have le : a.natAbs.lcm b.natAbs ≤ a.natAbs * b.natAbs := by
      rw [← Nat.gcd_mul_lcm]
      by_cases z : a.natAbs.gcd b.natAbs = 0
      · have : a.natAbs.lcm b.natAbs = 0 := by unfold Nat.lcm; rw [Nat.gcd_eq_zero_iff.mp z |>.1]; simp
        rw [this]; omega
      · exact Nat.le_mul_of_pos_left _ (by omega)
    have lt : a.natAbs.lcm b.natAbs < 2 ^ 8000 := by
      refine Nat.lt_of_le_of_lt le ?_
      rw [show (8000 : Nat) = 4000 + 4000 from rfl, Nat.pow_add]
      exact Nat.mul_lt_mul'' ha hb
    by_cases e : a.natAbs.lcm b.natAbs = 0
    · rw [e]; decide
    · exact Nat.lt_trans ((Nat.log2_lt e).mpr lt) (by decide)
  refine PySem.call_function_meets PySem.W.MGF.kind_lcm PySem.W.MGF.plain_lcm PySem.W.MGF.entry_lcm (PySem.W.MGF.args_lcm _ _) (PySem.W.mg_run_lcm a t b u (by omega) (by omega) sz).meets ?_
  rw [one]
  exact ⟨.int _, H, I.tok _, ⟨_, rfl⟩, q⟩
end
end Vf

set_option maxRecDepth 100000
set_option maxHeartbeats 4000000
/-! comprehensions over zip and ranges; rows of numbers at their addresses -/
namespace Vf
open PySem PySem.Spec PyProof.Rows L2
/-- a comprehension over zip(a, b), two lists alike in length -/
theorem lc_zipL {K : PySem.W.Frag} {a b : Addr} {xs ys : List V} {g : TG} {tt : TT} {te : TE} {vs : List Nat} {σ : L2.St} {H1 : Hp} {D : Addr} {Qd : Hp → Prop} (hl : xs.length = ys.length) (Pv : Nat → Hp → Prop) (h0 : Pv 0 (upd H1 D (.lst [])))
    (hq : ∀ i H, Pv i H → SqL K H a xs ∧ SqL K H b ys)
    (hs : ∀ (i : Nat) (x y : V) (T : Addr) (H : Hp), xs[i]? = some x → ys[i]? = some y → Pv i H → H T = none → g (.ref T) (wipe σ vs) (upd H T (.tup [x, y])) fun σ2 H2 => wipe σ2 vs = wipe σ vs ∧ tt σ2 H2 fun b H3 =>
      if b = true then te σ2 H3 fun y H4 => ∃ acc, H4 D = some (.lst acc) ∧ acc.length < sizeLine ∧ Pv (i + 1) (upd H4 D (.lst (acc ++ [y]))) else Pv (i + 1) H3) (hd : ∀ H, Pv xs.length H → Qd H) :
    ∃ W : Nat → Nat → Hp → Prop, (∃ m, W 0 m (upd H1 D (.lst []))) ∧ ∀ i m H, W i m H →
      (((Itz K a b).stop i H ∧ Qd H) ∨ ((Itz K a b).go i H ∧ ∃ Nx : Hp → Prop, (∀ H', Nx H' → ∃ m', m' < m ∧ W (i + 1) m' H') ∧ ∀ x H', (Itz K a b).yld i H x H' → g x (wipe σ vs) H' fun σ2 H2 => wipe σ2 vs = wipe σ vs ∧ tt σ2 H2 fun b H3 =>
        if b = true then te σ2 H3 fun y H4 => ∃ acc, H4 D = some (.lst acc) ∧ acc.length < sizeLine ∧ Nx (upd H4 D (.lst (acc ++ [y]))) else Nx H3)) := by
  refine ⟨fun i m H => m = xs.length - i ∧ i ≤ xs.length ∧ Pv i H, ⟨xs.length, by simp, Nat.zero_le _, h0⟩, ?_⟩
  rintro i m H ⟨rfl, hi, p⟩
  obtain ⟨qx, qy⟩ := hq i H p
  by_cases hlt : i < xs.length
  · have hx : xs[i]? = some xs[i] := List.getElem?_eq_getElem hlt
    have hlt2 : i < ys.length := by omega
    have hy : ys[i]? = some ys[i] := List.getElem?_eq_getElem hlt2
    refine .inr ⟨⟨xs, ys, xs[i], ys[i], qx, qy, hx, hy⟩, Pv (i + 1), fun H' p' => ⟨xs.length - (i + 1), by omega, rfl, hlt, p'⟩, fun v H' y => ?_⟩
    obtain ⟨T, x', y', e1, n, e2, h1, h2⟩ := y
    rw [e1, e2]
    exact hs i x' y' T H (h1 xs qx) (h2 ys qy) p n
  · have e : i = xs.length := by omega
    subst e
    exact .inl ⟨⟨xs, ys, qx, qy, .inl (Nat.le_refl _)⟩, hd H p⟩
/-- a tuple that tells the number q -/
def TR (H : Hp) (r : Addr) (q : Rat) : Prop := H r = some (.tup [.int q.num, .int (q.den : Int)])
theorem TR.pq {H : Hp} {r : Addr} {q : Rat} (h : TR H r q) : H r = some (.tup [.int (pq q).1, .int (pq q).2]) := h
theorem TR.same {H H' : Hp} {r : Addr} {q : Rat} (h : TR H r q) (s : Same H H') : TR H' r q := s _ _ h
/-- a list of such tuples -/
def RL (H : Hp) (l : Addr) (qs : List Rat) : Prop := ∃ as, H l = some (.lst (as.map V.ref)) ∧ Tups H as (qs.map pq)
theorem RL.same {H H' : Hp} {l : Addr} {qs : List Rat} (h : RL H l qs) (s : Same H H') : RL H' l qs := by
  obtain ⟨as, e, t⟩ := h
  exact ⟨as, s _ _ e, t.same s⟩
theorem Tups.atQ {H : Hp} {as : List Addr} {qs : List Rat} {i : Nat} {a : Addr} (h : Tups H as (qs.map pq)) (e : as[i]? = some a) : ∃ q, qs[i]? = some q ∧ TR H a q := by
  obtain ⟨p, h1, h2⟩ := h.at e
  rw [List.getElem?_map] at h1
  cases hq : qs[i]? with
  | none => rw [hq] at h1; cases h1
  | some q =>
    rw [hq] at h1
    cases h1
    exact ⟨q, rfl, h2⟩
theorem Tups.lenQ {H : Hp} {as : List Addr} {qs : List Rat} (h : Tups H as (qs.map pq)) : as.length = qs.length := by
  have := h.len
  rw [List.length_map] at this
  exact this
theorem Tups.snocQ {H : Hp} {as : List Addr} {qs : List Rat} {a : Addr} {q : Rat} (h : Tups H as (qs.map pq)) (e : TR H a q) : Tups H (as ++ [a]) ((qs ++ [q]).map pq) := by
  rw [List.map_append]
  exact h.snoc e
theorem Tups.getQ {H : Hp} {as : List Addr} {qs : List Rat} {i : Nat} (h : Tups H as (qs.map pq)) (hi : i < qs.length) : ∃ a, as[i]? = some a ∧ TR H a (cf qs i) := by
  have hl := h.lenQ
  have hi' : i < as.length := by omega
  obtain ⟨q, h1, h2⟩ := h.atQ (List.getElem?_eq_getElem hi')
  refine ⟨as[i], List.getElem?_eq_getElem hi', ?_⟩
  rw [cf_get h1]
  exact h2
theorem Tups.setQ {H : Hp} : ∀ {as : List Addr} {qs : List Rat} (i : Nat) {a : Addr} {q : Rat}, Tups H as (qs.map pq) → TR H a q → Tups H (as.set i a) ((qs.set i q).map pq)
  | [], [], _, _, _, _, _ => .nil
  | _ :: _, _ :: _, 0, _, _, .cons _ t, e => .cons e t
  | _ :: _, _ :: _, i + 1, _, _, .cons h t, e => .cons h (t.setQ i e)
theorem tr_zero {H : Hp} {r : Addr} (h : H r = some (.tup [.int 0, .int 1])) : TR H r 0 := h
theorem tups_rep0 {H : Hp} {a : Addr} (h : TR H a 0) (n : Nat) : Tups H (List.replicate n a) ((List.replicate n (0 : Rat)).map pq) := by
  rw [List.map_replicate]
  exact Tups.rep' (p := pq 0) h n
where
  Tups.rep' {H : Hp} {a : Addr} {p : Int × Int} (h : H a = some (.tup [.int p.1, .int p.2])) : ∀ n : Nat, Tups H (List.replicate n a) (List.replicate n p)
    | 0 => .nil
    | n + 1 => .cons h (Tups.rep' h n)
theorem flat_repQ (n : Nat) (a : Addr) : (List.replicate n [V.ref a]).flatten = (List.replicate n a).map V.ref := by
  rw [List.flatten_replicate_singleton, List.map_replicate]
theorem cf_rep0 (n i : Nat) : cf (List.replicate n 0) i = 0 := by
  unfold cf
  rw [List.getD_eq_getElem?_getD, List.getElem?_replicate]
  split <;> rfl
theorem cf_set {l : List Rat} {i j : Nat} {x : Rat} (h : i < l.length) : cf (l.set i x) j = if j = i then x else cf l j := by
  unfold cf
  rw [List.getD_eq_getElem?_getD, List.getD_eq_getElem?_getD, List.getElem?_set]
  by_cases e : i = j
  · rw [if_pos e, if_pos e.symm, if_pos h]
    rfl
  · rw [if_neg e, if_neg (fun z => e z.symm)]
theorem big_mulW {x y : Int} (h1 : x.natAbs < 2 ^ 3900) (h2 : y.natAbs < 2 ^ 3900) : CMulW x y := wide_mul h1 h2 (by decide) (by decide) (by decide)
theorem Sr.n {q : Rat} (h : Sr q) : q.num.natAbs < 2 ^ 3900 := Nat.lt_trans h.1 (Nat.pow_lt_pow_right (by decide) (by decide))
theorem Sr.d {q : Rat} (h : Sr q) : ((q.den : Int)).natAbs < 2 ^ 3900 := by
  rw [Int.natAbs_natCast]
  exact Nat.lt_trans h.2 (Nat.pow_lt_pow_right (by decide) (by decide))
theorem pow_add2 (a b : Nat) : (2 : Nat) ^ a * 2 ^ b = 2 ^ (a + b) := (Nat.pow_add _ _ _).symm
theorem sr_sum {a b : Rat} (ha : Sr a) (hb : Sr b) : (a.num * b.den + b.num * a.den).natAbs < 2 ^ 4000 ∧ ((a.den : Int) * b.den).natAbs < 2 ^ 4000 ∧ (a.num * b.num).natAbs < 2 ^ 4000 := by
  have m : ∀ {x y : Nat}, x < 2 ^ 1900 → y < 2 ^ 1900 → x * y < 2 ^ 3800 := fun {x y} h1 h2 => by
    have := Nat.mul_lt_mul'' h1 h2
    rw [pow_add2] at this
    exact this
  have l1 : (2 : Nat) ^ 3800 + 2 ^ 3800 = 2 ^ 3801 := by rw [show (3801 : Nat) = 3800 + 1 from rfl, Nat.pow_succ]; omega
  have l2 : (2 : Nat) ^ 3801 ≤ 2 ^ 4000 := Nat.pow_le_pow_right (by decide) (by decide)
  have l3 : (2 : Nat) ^ 3800 ≤ 2 ^ 4000 := Nat.pow_le_pow_right (by decide) (by decide)
  have m1 := m ha.1 hb.2
  have m2 := m hb.1 ha.2
  have m3 := m ha.2 hb.2
  have m4 := m ha.1 hb.1
  have e1 : (a.num * b.den).natAbs = a.num.natAbs * b.den := by rw [Int.natAbs_mul, Int.natAbs_natCast]
  have e2 : (b.num * a.den).natAbs = b.num.natAbs * a.den := by rw [Int.natAbs_mul, Int.natAbs_natCast]
  refine ⟨?_, ?_, ?_⟩
  · have := Int.natAbs_add_le (a.num * b.den) (b.num * a.den)
    omega
  · rw [Int.natAbs_mul, Int.natAbs_natCast, Int.natAbs_natCast]
    omega
  · rw [Int.natAbs_mul]
    omega
end Vf

set_option maxRecDepth 100000
set_option maxHeartbeats 4000000
/-! a range that stands in a name, walked; rows of whole numbers -/
namespace Vf
open PySem PySem.Spec PyProof.Rows L2
section
variable {X : Cx} {tg : Expr}
def rRng1 : List V → Hp → VK → Prop := fun vs H Q => ∃ j, vs = [V.int j] ∧ ∀ p, H p = none → Q (.ref p) (upd H p (.rng 0 j))
theorem cr_range1 : CallR X (.type "range") rRng1 := by
  intro pins s σ H vs us Q I r h
  obtain ⟨j, rfl, q⟩ := h
  cases r with
  | cons r rr =>
    cases rr
    obtain ⟨t, rfl⟩ := r
    refine call_range_1 ⟨.ref s.heap.objs.size, upd H s.heap.objs.size (.rng 0 j), I.laid (t' := s.toks + 1 + 1) (fun b o e => Heap.get?_push_of_some _ e) (Nat.le_refl _) ?_, rfl, q _ (I.hok.fresh (Nat.le_refl _))⟩
    exact ⟨_, t, _, Heap.get?_push_size _ rfl⟩
def iRngV (te : TE) : TI := fun σ H R => te σ H fun x H1 => ∃ a lo hi, x = .ref a ∧ H1 a = some (.rng lo hi) ∧ (-(2 ^ 62) ≤ lo ∧ lo < 2 ^ 62 ∧ -(2 ^ 62) ≤ hi ∧ hi < 2 ^ 62) ∧ R (Itr lo (hi - lo).toNat) H1
theorem pi_rng {l : Expr} {tl : TE} (hl : PE X l tl) : PI X tg l (iRngV tl) := by
  refine ⟨fun pins s σ H R I h => ?_⟩
  refine thn (hl.run pins s σ H _ I h) fun v s1 ⟨x, H1, I1, r1, q1⟩ => ?_
  obtain ⟨a, lo, hi, rfl, ha, ⟨h1, h2, h3, h4⟩, q⟩ := q1
  cases r1
  obtain ⟨t, u, v, ho⟩ := I1.hok a _ ha
  refine wpAny_pyIter_range (show IsRange s1.heap a lo hi 1 t u v from ho) (small_one h1 h2 h3 h4) ?_
  refine ⟨s1.heap.objs.size, [s1.heap.objs.size], _, _, H1, rfl, I1.kept (t' := s1.toks) fun b o e => Heap.get?_push_of_some _ e, turn_range _ lo (hi - lo).toNat, ?_, fun b hb => ?_, q⟩
  · have e1 : lo + ((0 : Nat) : Int) * 1 = lo := by simp
    have e2 : (((hi - lo).toNat : Nat) : Int) - ((0 : Nat) : Int) = Builtin.Range.rangeSize lo hi 1 := by rw [rangeSize_one]; split <;> omega
    show IsRangeIter _ _ (lo + ((0 : Nat) : Int) * 1) ((((hi - lo).toNat : Nat) : Int) - ((0 : Nat) : Int)) 1
    rw [e1, e2]
    exact Heap.get?_push_size _ rfl
  · have e : b = s1.heap.objs.size := by simpa using hb
    subst e
    exact I1.fpOk (Nat.le_refl _) (I1.hok.fresh (Nat.le_refl _))
end
/-! ### whole numbers over one bottom -/
/-- the row ns tells the numbers qs over M -/
def Over (M : Int) (ns : List Int) (qs : List Rat) : Prop := ns.length = qs.length ∧ ∀ i, ((ns.getD i 0 : Int) : Rat) = cf qs i * (M : Rat)
def ci (ns : List Int) (i : Nat) : Int := ns.getD i 0
theorem Over.at {M : Int} {ns : List Int} {qs : List Rat} (h : Over M ns qs) (i : Nat) : cf qs i * (M : Rat) = ((ci ns i : Int) : Rat) := (h.2 i).symm
theorem ci_lt {l : List Int} {i : Nat} (h : i < l.length) : l[i]? = some (ci l i) := by
  unfold ci
  rw [List.getD_eq_getElem?_getD, List.getElem?_eq_getElem h]
  rfl
theorem ci_get {l : List Int} {i : Nat} {x : Int} (h : l[i]? = some x) : ci l i = x := by
  unfold ci
  rw [List.getD_eq_getElem?_getD, h]
  rfl
theorem ci_ge {l : List Int} {i : Nat} (h : l.length ≤ i) : ci l i = 0 := by
  unfold ci
  rw [List.getD_eq_getElem?_getD, List.getElem?_eq_none_iff.mpr h]
  rfl
def tabI (n : Nat) (f : Nat → Int) : List Int := (List.range n).map f
theorem tabI_len (n : Nat) (f : Nat → Int) : (tabI n f).length = n := by unfold tabI; rw [List.length_map, List.length_range]
theorem tabI_snoc (n : Nat) (f : Nat → Int) : tabI (n + 1) f = tabI n f ++ [f n] := by
  unfold tabI
  rw [List.range_succ, List.map_append]
  rfl
theorem ci_tab (n : Nat) (f : Nat → Int) (i : Nat) : ci (tabI n f) i = if i < n then f i else 0 := by
  unfold ci tabI
  rw [List.getD_eq_getElem?_getD, List.getElem?_map]
  by_cases h : i < n
  · rw [if_pos h, List.getElem?_range h]; rfl
  · rw [if_neg h, List.getElem?_eq_none_iff.mpr (by rw [List.length_range]; omega)]; rfl
def smI (f : Nat → Int) : Nat → Int
  | 0 => 0
  | n + 1 => smI f n + f n
theorem smI_cast (f : Nat → Int) : ∀ n, ((smI f n : Int) : Rat) = sm (fun i => (f i : Rat)) n
  | 0 => rfl
  | n + 1 => by
    show (((smI f n + f n : Int)) : Rat) = sm (fun i => (f i : Rat)) n + (f n : Rat)
    rw [Rat.intCast_add, smI_cast f n]
end Vf

set_option maxRecDepth 100000
set_option maxHeartbeats 8000000
namespace Vf
open PySem PySem.Spec PyProof.Rows L2
def topS (i : Nat) : Stmt := PySem.Challenge.pw_nearcurves_k04_whole_sums_and_values_of.main.body.getD i (.Pass ⟨0, 0, 0, 0⟩)
/-! ### the pen -/
def penL (l : Addr) (at_ dg ct fo : Int) : List (Key × V) := [(.inr "cells", .ref l), (.inr "at", .int at_), (.inr "digits", .int dg), (.inr "count", .int ct), (.inr "fold", .int fo)]
section
variable {l : Addr} {a d c f x : Int}
theorem pv1 : valV (penL l a d c f) (.inr "cells") = some (.ref l) := by kernel_rfl
theorem pv2 : valV (penL l a d c f) (.inr "at") = some (.int a) := by kernel_rfl
theorem pv3 : valV (penL l a d c f) (.inr "digits") = some (.int d) := by kernel_rfl
theorem pv4 : valV (penL l a d c f) (.inr "count") = some (.int c) := by kernel_rfl
theorem pv5 : valV (penL l a d c f) (.inr "fold") = some (.int f) := by kernel_rfl
theorem pp2 : putK (penL l a d c f) (.inr "at") (.int x) = penL l x d c f := by kernel_rfl
theorem pp3 : putK (penL l a d c f) (.inr "digits") (.int x) = penL l a x c f := by kernel_rfl
theorem pp4 : putK (penL l a d c f) (.inr "count") (.int x) = penL l a d x f := by kernel_rfl
theorem pp5 : putK (penL l a d c f) (.inr "fold") (.int x) = penL l a d c x := by kernel_rfl
theorem pm : mergeK [] [(.inr "cells", .ref l), (.inr "at", .int 0), (.inr "digits", .int 0), (.inr "count", .int 0), (.inr "fold", .int f)] = penL l 0 0 0 f := by kernel_rfl
end
/-- a pen at p that has been asked at most B times -/
structure PenC (at_ dg ct fo B : Int) : Prop where
  a0 : 0 ≤ at_
  d0 : 0 ≤ dg
  c0 : 0 ≤ ct
  cB : ct ≤ B
  f0 : 0 ≤ fo
  f1 : fo < 2147483587
def PenAt (H : Hp) (p l : Addr) (ns : List Int) (at_ dg ct fo : Int) : Prop := H p = some (.dK (penL l at_ dg ct fo)) ∧ H l = some (.lst (ns.map V.int)) ∧ ns.length ≤ 63
def Pen (H : Hp) (p l : Addr) (B : Int) : Prop := ∃ ns at_ dg ct fo, PenAt H p l ns at_ dg ct fo ∧ PenC at_ dg ct fo B
/-- all but p stands as it stood -/
def Kp (p : Addr) (H H' : Hp) : Prop := ∀ b o, b ≠ p → H b = some o → H' b = some o
theorem Kp.refl {p : Addr} {H : Hp} : Kp p H H := fun _ _ _ h => h
theorem Kp.trans {p : Addr} {H H1 H2 : Hp} (a : Kp p H H1) (b : Kp p H1 H2) : Kp p H H2 := fun c o n h => b c o n (a c o n h)
theorem Kp.of {p : Addr} {H H' : Hp} (s : Same H H') : Kp p H H' := fun b o _ h => s b o h
theorem same_upd {H : Hp} {p : Addr} {o : HO} (n : H p = none) : Same H (upd H p o) := fun b u e => by rw [upd_ne (ne_of_none e n)]; exact e
/-- the heap without p -/
def wo (p : Addr) (H : Hp) : Hp := fun b => if b = p then none else H b
theorem Kp.wo {p : Addr} {H H' : Hp} (k : Kp p H H') : Same (wo p H) (wo p H') := fun b o e => by
  unfold Vf.wo at e ⊢
  by_cases h : b = p
  · rw [if_pos h] at e
    cases e
  · rw [if_neg h] at e ⊢
    exact k b o h e
theorem wo_sub {p : Addr} {H : Hp} : Same (wo p H) H := fun b o e => by
  unfold Vf.wo at e
  by_cases h : b = p
  · rw [if_pos h] at e
    cases e
  · rw [if_neg h] at e
    exact e
theorem wo_at {p b : Addr} {H : Hp} {o : HO} (h : b ≠ p) (e : H b = some o) : wo p H b = some o := by
  unfold Vf.wo
  rw [if_neg h]
  exact e
theorem PenAt.ne {H : Hp} {p l : Addr} {ns : List Int} {a d c f : Int} (h : PenAt H p l ns a d c f) : l ≠ p := ne_of h.2.1 h.1 (by intro z; cases z)
theorem PenAt.same {H H' : Hp} {p l : Addr} {ns : List Int} {a d c f : Int} (h : PenAt H p l ns a d c f) (s : Same H H') : PenAt H' p l ns a d c f := ⟨s _ _ h.1, s _ _ h.2.1, h.2.2⟩
theorem Pen.same {H H' : Hp} {p l : Addr} {B : Int} (h : Pen H p l B) (s : Same H H') : Pen H' p l B := by
  obtain ⟨ns, a, d, c, f, h1, h2⟩ := h
  exact ⟨ns, a, d, c, f, h1.same s, h2⟩
theorem Pen.more {H : Hp} {p l : Addr} {B B' : Int} (h : Pen H p l B) (e : B ≤ B') : Pen H p l B' := by
  obtain ⟨ns, a, d, c, f, h1, h2⟩ := h
  exact ⟨ns, a, d, c, f, h1, h2.a0, h2.d0, h2.c0, Int.le_trans h2.cB e, h2.f0, h2.f1⟩
theorem Pen.there {H : Hp} {p l : Addr} {B : Int} (h : Pen H p l B) : ∃ o, H p = some o := by
  obtain ⟨ns, a, d, c, f, h1, h2⟩ := h
  exact ⟨_, h1.1⟩
theorem PenAt.put {H : Hp} {p l : Addr} {ns : List Int} {a d c f a' d' c' f' : Int} (h : PenAt H p l ns a d c f) : PenAt (upd H p (.dK (penL l a' d' c' f'))) p l ns a' d' c' f' :=
  ⟨upd_same, by rw [upd_ne h.ne]; exact h.2.1, h.2.2⟩
theorem kp_upd {H : Hp} {p : Addr} {o : HO} : Kp p H (upd H p o) := fun b u n e => by rw [upd_ne n]; exact e

def spPen (K : PySem.W.Frag) : Sp := fun vs H Q _ => ∃ (a : Addr) (ns : List Int), vs = [.ref a] ∧ SqL K H a (ns.map V.int) ∧ ns.length ≤ 63 ∧ ∀ (p l : Addr) (H' : Hp), Same H H' → H p = none → H l = none → Pen H' p l 0 → Q (.ref p) H'
def spDraw : Sp := fun vs H Q _ => ∃ (p l : Addr) (B many : Int), vs = [.ref p, .int many] ∧ Pen H p l B ∧ B ≤ 1000000000 ∧ 0 < many ∧ many < 1000000 ∧
  ∀ (z : Int) (H' : Hp), 0 ≤ z → z < many → Pen H' p l (B + 1) → Kp p H H' → Q (.int z) H'
def spPick : Sp := fun vs H Q _ => ∃ (p l s : Addr) (B : Int) (xs : List V), vs = [.ref p, .ref s] ∧ Pen H p l B ∧ B ≤ 1000000000 ∧ H s = some (.lst xs) ∧ s ≠ p ∧ 0 < xs.length ∧ xs.length < 1000000 ∧
  ∀ (x : V) (H' : Hp), x ∈ xs → Pen H' p l (B + 1) → Kp p H H' → Q x H'
def spFar : Sp := fun vs H Q _ => ∃ (p l : Addr) (B : Int), vs = [.ref p] ∧ Pen H p l B ∧ B ≤ 100000000 ∧
  ∀ (z : Int) (H' : Hp), -1000000000000000000 < z → z < 1000000000000000000 → Pen H' p l (B + 8) → Kp p H H' → Q (.int z) H'
/-- built-in names that the text leaves alone -/
structure Bi (mg : Str → Option Value) : Prop where
  int : mg "int" = none
  list : mg "list" = none
  len : mg "len" = none
  range : mg "range" = none
/-- a def of the text that raises nothing -/
structure Df (P : Program) (w : World) (K : PySem.W.Frag) (mg : Str → Option Value) (base : Heap) (x : Str) (k : Nat) (ps : List Str) (sp : Sp) where
  f : Addr
  fd : FuncData
  m : mg x = some (.ref f)
  kp : PySem.W.keepIn K (.ref f) = true
  b : Binds K fd ps []
  ok : FnOk P w K mg base CX0 k f fd ps sp

abbrev sPen : Stmt := topS 33
abbrev sDraw : Stmt := topS (33 + 1)
abbrev sPick : Stmt := topS (33 + 2)
section
variable {P : Program} {w : World} {K : PySem.W.Frag} {mg : Str → Option Value} {base : Heap}
theorem scPen : FnScope ["_law_script", "_law_fold", "_law_cell"] ["_law_script"] (defScope sPen) := ⟨rfl, rfl, rfl, by decide +kernel, rfl, by decide +kernel, by decide +kernel⟩
theorem ok_pen {f : Addr} {fd : FuncData} (F : Fun K "_law_pen" "_law_pen" sPen f fd) (T : Bi mg) : FnOk P w K mg base CX0 1 f fd ["_law_script"] (spPen K) := by
  refine F.ok scPen (fun vs H Q E h => ?_) (fun cdv A outer s H vs Q E hr h => ?_)
  · obtain ⟨a, ns, rfl, _⟩ := h
    rfl
  · obtain ⟨a, ns, rfl, hS, hl, k⟩ := h
    refine ⟨_, (pss_cons (ps_set (i := 1) scPen.nd rfl (Or.inl rfl) pe_int)
      (pss_cons (ps_for PassesOwn.never rfl (pi_list (pv 0)) (pg_name (i := 2) scPen.nd rfl (Or.inl rfl))
        (pss_one (ps_set (i := 1) scPen.nd rfl (Or.inl rfl) (pe_op op_mod (pe_callTy call_int1 (by rfl) T.int (by decide +kernel) (pa_cons (pe_op op_add (pe_op op_mul (pv 1) pe_int) (pv 2)) pa_nil)) pe_int))))
      (pss_one (ps_ret (pe_disp (pps_cons pe_str (pe_callTy call_list_of (by rfl) T.list (by decide +kernel) (pa_cons (pv 0) pa_nil)) (pps_cons pe_str pe_int (pps_cons pe_str pe_int (pps_cons pe_str pe_int (pps_cons pe_str (pv 1) pps_nil))))) (by rfl) (by rfl) (fun z => by cases z) (by decide)))))), ?_⟩
    refine ⟨_, rfl, a, rfl, ⟨_, hS⟩, for_list (K := K) (a := a) (xs := ns.map V.int) (fun i σ H2 => H2 = H ∧ ∃ (z : Int) (v : Option V), σ = [some (.ref a), some (.int z), v] ∧ 0 ≤ z ∧ z < 1000000007)
      ⟨rfl, 0, none, rfl, by decide, by decide⟩ (fun i σ H2 _ ⟨e, _⟩ => by rw [e]; exact hS) ?_ ?_⟩
    · rintro i y σ H2 hi ⟨rfl, z, v, rfl, h0, h1⟩
      obtain ⟨n, rfl⟩ : ∃ n, y = V.int n := by
        rw [List.getElem?_map] at hi
        cases e : ns[i]? with
        | none =>
          rw [e] at hi
          cases hi
        | some n =>
          rw [e] at hi
          exact ⟨n, (Option.some.inj hi).symm⟩
      refine ⟨_, rfl, _, _, rfl, rfl, .inl ⟨by omega, by omega⟩, _, rfl, _, _, rfl, rfl, .inl ⟨_, rfl, _, _, rfl, rfl, (by show (0 : Int) < 1000000007; decide), ?_⟩⟩
      exact ⟨rfl, _, _, rfl, Int.emod_nonneg _ (by decide), Int.emod_lt_of_pos _ (by decide)⟩
    · rintro σ H2 ⟨rfl, z, v, rfl, h0, h1⟩
      intro p np
      refine ⟨_, rfl, a, _, rfl, .inl ((same_upd np).seq hS), fun l nl => ?_⟩
      refine ⟨_, rfl, ?_⟩
      have npl : p ≠ l := ne_of_none upd_same nl
      refine ⟨by rw [upd_ne npl]; exact upd_same, [(.inr "cells", .ref l), (.inr "at", .int 0), (.inr "digits", .int 0), (.inr "count", .int 0), (.inr "fold", .int z)], rfl, (by show 5 ≤ 15; decide), ?_⟩
      rw [pm]
      have nl2 : H2 l = none := by
        have q := nl
        rw [upd_ne npl.symm] at q
        exact q
      refine k p l _ (fun b o e => ?_) np nl2 ⟨ns, 0, 0, 0, z, ⟨upd_same, by rw [upd_ne npl.symm]; exact upd_same, hl⟩, by decide, by decide, by decide, by decide, h0, by omega⟩
      rw [upd_ne (ne_of_none e np), upd_ne (ne_of_none e nl2), upd_ne (ne_of_none e np)]
      exact e
theorem scDraw : FnScope ["_law_pen_here", "_law_many", "_law_cell", "_law_digit", "_law_mixed"] ["_law_pen_here", "_law_many"] (defScope sDraw) := ⟨rfl, rfl, rfl, by decide +kernel, rfl, by decide +kernel, by decide +kernel⟩
theorem ok_draw {f : Addr} {fd : FuncData} (F : Fun K "_law_draw" "_law_draw" sDraw f fd) (T : Bi mg) : FnOk P w K mg base CX0 1 f fd ["_law_pen_here", "_law_many"] spDraw := by
  refine F.ok scDraw (fun vs H Q E h => ?_) (fun cdv A outer s H vs Q E hr h => ?_)
  · obtain ⟨p, l, B, m, rfl, _⟩ := h
    rfl
  · obtain ⟨p, l, B, m, rfl, ⟨ns, a0, d0, c0, f0, hP, hC⟩, hB, hm0, hm1, k⟩ := h
    have hu := hu_of hr
    have small : ∀ {l : Addr} {a d c f : Int}, (penL l a d c f).length < sizeLine := by intros; show 5 < sizeLine; decide
    refine ⟨_, (pss_cons (ps_dput hu (pv 0) pe_str (pe_op op_add (pe_dget hu (pv 0) pe_str (fun _ _ => rfl)) pe_int) rfl)
  (C8.pss_cut (ps_if (PW.pt (pw_and (pt_cmpR op_eq (pe_dget hu (pv 0) pe_str (fun _ _ => rfl)) pe_int (nomark _)) (pw_and1 (pt_cmpR op_lt (pe_dget hu (pv 0) pe_str (fun _ _ => rfl)) (pe_callB call_len_seq (by rfl) T.len (by decide +kernel) (pa_cons (pe_dget hu (pv 0) pe_str (fun _ _ => rfl)) pa_nil)) (nomark _)))))
    (pss_cons (ps_set (i := 2) scDraw.nd rfl (Or.inl rfl) (pe_ix ix_list (pe_dget hu (pv 0) pe_str (fun _ _ => rfl)) (pe_dget hu (pv 0) pe_str (fun _ _ => rfl)) (fun _ _ => rfl)))
    (pss_cons (ps_dput hu (pv 0) pe_str (pe_op op_add (pe_dget hu (pv 0) pe_str (fun _ _ => rfl)) pe_int) rfl)
    (pss_one (ps_if (pt_cmpR op_ge (pv 2) (pe_op op_pow pe_int pe_int) (nomark _))
      (pss_one (ps_dput hu (pv 0) pe_str (pe_op op_sub (pv 2) (pe_op op_pow pe_int pe_int)) rfl))
      (pss_one (ps_dput hu (pv 0) pe_str (pe_op op_mod (pe_callTy call_int1 (by rfl) T.int (by decide +kernel) (pa_cons (pe_op op_add (pe_op op_mul (pe_dget hu (pv 0) pe_str (fun _ _ => rfl)) pe_int) (pv 2)) pa_nil)) pe_int) rfl))))))
    pss_nil)
  (pss_cons (ps_if (pt_cmpR op_gt (pe_dget hu (pv 0) pe_str (fun _ _ => rfl)) pe_int (nomark _))
    (pss_cons (ps_set (i := 3) scDraw.nd rfl (Or.inl rfl) (pe_op op_mod (pe_callTy call_int1 (by rfl) T.int (by decide +kernel) (pa_cons (pe_dget hu (pv 0) pe_str (fun _ _ => rfl)) pa_nil)) (pv 1)))
    (pss_cons (ps_dput hu (pv 0) pe_str (pe_op op_fdiv (pe_dget hu (pv 0) pe_str (fun _ _ => rfl)) (pv 1)) rfl)
    (pss_one (ps_ret (pv 3)))))
    pss_nil)
  (pss_cons (ps_set (i := 4) scDraw.nd rfl (Or.inl rfl) (pe_op op_add (pe_op op_add (pe_dget hu (pv 0) pe_str (fun _ _ => rfl)) (pe_op op_mul (pe_dget hu (pv 0) pe_str (fun _ _ => rfl)) pe_int)) pe_int))
  (pss_one (ps_ret (pe_op op_mod (pe_op op_fdiv (pe_callTy call_int1 (by rfl) T.int (by decide +kernel) (pa_cons (pe_op op_mod (pe_op op_pow (pv 4) pe_int) pe_int) pa_nil)) pe_int) (pv 1)))))))), ?_⟩
    -- count
    refine ⟨_, rfl, p, .int c0, rfl, ?_, _, _, rfl, rfl, _, rfl, p, _, rfl, DPut.k (k := Sum.inr "count") hP.1 small, ?_⟩
    · have q := DGet.k (k := (Sum.inr "count" : Key)) hP.1
      rw [pv4] at q
      exact q
    rw [pp4]
    have hP1 := hP.put (a' := a0) (d' := d0) (c' := c0 + 1) (f' := f0)
    generalize hH1 : upd H p (.dK (penL l a0 d0 (c0 + 1) f0)) = H1 at hP1
    have k1 : Kp p H H1 := by rw [← hH1]; exact kp_upd
    clear hH1
    -- the cut: a pen again
    refine ⟨fun σ H2 => ∃ (v2 : Option V) (a d c f : Int), σ = [some (.ref p), some (.int m), v2, none, none] ∧ PenAt H2 p l ns a d c f ∧ PenC a d c f (B + 1) ∧ Kp p H H2, ?_, ?_⟩
    · have g3 : DGet H1 p (kV (Sum.inr "digits")) (some (.int d0)) := by
        have q := DGet.k (k := (Sum.inr "digits" : Key)) hP1.1
        rw [pv3] at q
        exact q
      have g2 : DGet H1 p (kV (Sum.inr "at")) (some (.int a0)) := by
        have q := DGet.k (k := (Sum.inr "at" : Key)) hP1.1
        rw [pv2] at q
        exact q
      have g1 : DGet H1 p (kV (Sum.inr "cells")) (some (.ref l)) := by
        have q := DGet.k (k := (Sum.inr "cells" : Key)) hP1.1
        rw [pv1] at q
        exact q
      refine ⟨_, rfl, p, _, rfl, g3, rfl, _, rfl, ?_⟩
      have stay : ∃ (v2 : Option V) (a d c f : Int), start ["_law_pen_here", "_law_many", "_law_cell", "_law_digit", "_law_mixed"] [V.ref p, V.int m] = [some (.ref p), some (.int m), v2, none, none] ∧ PenAt H1 p l ns a d c f ∧ PenC a d c f (B + 1) ∧ Kp p H H1 :=
        ⟨none, a0, d0, c0 + 1, f0, rfl, hP1, ⟨hC.a0, hC.d0, by have := hC.c0; omega, by have := hC.cB; omega, hC.f0, hC.f1⟩, k1⟩
      by_cases hd : d0 = 0
      · rw [decide_eq_true (by rw [hd])]
        refine iteT ?_
        refine ⟨_, rfl, p, _, rfl, g2, _, rfl, p, _, rfl, g1, l, _, rfl, .inl (SqL.of hP1.2.1), _, _, rfl, rfl, _, rfl, ?_⟩
        rw [List.length_map]
        by_cases ha : a0 < (ns.length : Int)
        · rw [decide_eq_true ha]
          refine iteT ?_
          have han : a0.toNat < ns.length := by have := hC.a0; omega
          have hat : (ns.map V.int)[a0.toNat]? = some (V.int ns[a0.toNat]) := by
            rw [List.getElem?_map, List.getElem?_eq_getElem han]
            rfl
          generalize ns[a0.toNat] = z at hat
          refine ⟨_, rfl, p, _, rfl, g1, _, rfl, p, _, rfl, g2, l, _, a0, .int z, rfl, rfl, SqL.of hP1.2.1, at_of (j := a0.toNat) (by have := hC.a0; omega) hat, ?_⟩
          refine ⟨_, rfl, p, _, rfl, g2, _, _, rfl, rfl, _, rfl, p, _, rfl, DPut.k (k := Sum.inr "at") hP1.1 small, ?_⟩
          rw [pp2]
          have hP2 := hP1.put (a' := a0 + 1) (d' := d0) (c' := c0 + 1) (f' := f0)
          generalize hH2 : upd H1 p (.dK (penL l (a0 + 1) d0 (c0 + 1) f0)) = H2 at hP2
          have k2 : Kp p H H2 := by rw [← hH2]; exact k1.trans kp_upd
          clear hH2
          refine ⟨_, rfl, _, _, rfl, rfl, ⟨by decide, by decide, by decide⟩, _, _, rfl, rfl, _, rfl, ?_⟩
          refine ite2 (fun hz => ?_) (fun hz => ?_)
          · have hz2 : (10 : Int) ^ (18 : Int).toNat ≤ z := of_decide_eq_true hz
            refine ⟨_, rfl, _, _, rfl, rfl, ⟨by decide, by decide, by decide⟩, _, _, rfl, rfl, _, rfl, p, _, rfl, DPut.k (k := Sum.inr "digits") hP2.1 small, ?_⟩
            rw [pp3]
            exact ⟨_, a0 + 1, _, c0 + 1, f0, rfl, hP2.put, ⟨by have := hC.a0; omega, by omega, by have := hC.c0; omega, by have := hC.cB; omega, hC.f0, hC.f1⟩, k2.trans kp_upd⟩
          · refine ⟨_, rfl, p, .int f0, rfl, ?_, _, _, rfl, rfl, .inl ⟨?_, ?_⟩, _, rfl, _, _, rfl, rfl, .inl ⟨_, rfl, _, _, rfl, rfl, (by show (0 : Int) < 2147483587; decide), _, rfl, p, _, rfl, DPut.k (k := Sum.inr "fold") hP2.1 small, ?_⟩⟩
            · have q := DGet.k (k := (Sum.inr "fold" : Key)) hP2.1
              rw [pv5] at q
              exact q
            · have := hC.f0; omega
            · have := hC.f1; omega
            rw [pp5]
            exact ⟨_, a0 + 1, d0, c0 + 1, _, rfl, hP2.put, ⟨by have := hC.a0; omega, hC.d0, by have := hC.c0; omega, by have := hC.cB; omega, Int.emod_nonneg _ (by decide), Int.emod_lt_of_pos _ (by decide)⟩, k2.trans kp_upd⟩
        · rw [decide_eq_false ha]
          refine iteF ?_
          exact stay
      · rw [decide_eq_false (fun z => hd (by have z2 := V.int.inj z; exact z2))]
        refine iteF ?_
        exact stay
    · rintro σ H2 ⟨v2, a, d, c, f, rfl, hP2, hC2, k2⟩
      have g3 : DGet H2 p (kV (Sum.inr "digits")) (some (.int d)) := by
        have q := DGet.k (k := (Sum.inr "digits" : Key)) hP2.1
        rw [pv3] at q
        exact q
      refine ⟨_, rfl, p, _, rfl, g3, _, _, rfl, rfl, _, rfl, ?_⟩
      refine ite2 (fun hz => ?_) (fun hz => ?_)
      · have hz2 : 0 < d := of_decide_eq_true hz
        refine ⟨_, rfl, p, _, rfl, g3, .inl ⟨_, rfl, _, rfl, _, _, rfl, rfl, hm0, ?_⟩⟩
        refine ⟨_, rfl, p, _, rfl, g3, _, rfl, _, _, rfl, rfl, ⟨hm0, by omega⟩, _, rfl, p, _, rfl, DPut.k (k := Sum.inr "digits") hP2.1 small, ?_⟩
        rw [pp3]
        exact ⟨_, rfl, k _ _ (Int.emod_nonneg _ (by omega)) (Int.emod_lt_of_pos _ hm0) ⟨ns, a, _, c, f, hP2.put, hC2.a0, Int.ediv_nonneg hC2.d0 (by omega), hC2.c0, hC2.cB, hC2.f0, hC2.f1⟩ (k2.trans kp_upd)⟩
      · refine ⟨_, rfl, p, .int f, rfl, ?_, _, rfl, p, .int c, rfl, ?_, _, _, rfl, rfl, .inl ⟨?_, ?_⟩, _, _, rfl, rfl, _, _, rfl, rfl, ?_⟩
        · have q := DGet.k (k := (Sum.inr "fold" : Key)) hP2.1
          rw [pv5] at q
          exact q
        · have q := DGet.k (k := (Sum.inr "count" : Key)) hP2.1
          rw [pv4] at q
          exact q
        · have := hC2.c0; omega
        · have := hC2.cB; omega
        have b1 := hC2.c0
        have b2 := hC2.cB
        have b3 := hC2.f0
        have b4 := hC2.f1
        refine ⟨_, rfl, _, _, rfl, rfl, ⟨by decide, by decide, ?_⟩, _, _, rfl, rfl, (by show (0 : Int) < 2305843009213693951; decide), .inl ⟨_, rfl, _, _, rfl, rfl, ⟨by decide, by decide⟩, _, rfl, _, _, rfl, rfl, hm0, ?_⟩⟩
        · show (f + c * 7907 + 43).natAbs < 2 ^ 64
          omega
        exact k _ _ (Int.emod_nonneg _ (by omega)) (Int.emod_lt_of_pos _ hm0) ⟨ns, a, d, c, f, hP2, hC2⟩ k2
theorem scPick : FnScope ["_law_pen_here", "_law_some"] ["_law_pen_here", "_law_some"] (defScope sPick) := ⟨rfl, rfl, rfl, by decide +kernel, rfl, by decide +kernel, by decide +kernel⟩
theorem ok_pick {f : Addr} {fd : FuncData} (F : Fun K "_law_pick" "_law_pick" sPick f fd) (T : Bi mg) (G : Df P w K mg base "_law_draw" 1 ["_law_pen_here", "_law_many"] spDraw) : FnOk P w K mg base CX0 2 f fd ["_law_pen_here", "_law_some"] spPick := by
  refine F.ok scPick (fun vs H Q E h => ?_) (fun cdv A outer s H vs Q E hr h => ?_)
  · obtain ⟨p, l, s, B, xs, rfl, _⟩ := h
    rfl
  · obtain ⟨p, l, s, B, xs, rfl, hP, hB, hs, hne, h0, h1, k⟩ := h
    refine ⟨_, (pss_one (ps_ret (pe_ix ix_list (pv 1) (pe_call G.ok hr rfl G.m G.kp G.b .nil pass0 (pa_cons (pv 0) (pa_cons (pe_callB call_len_seq (by rfl) T.len (by decide +kernel) (pa_cons (pv 1) pa_nil)) pa_nil))) (fun _ _ => rfl)))), ?_⟩
    refine ⟨_, rfl, _, rfl, _, rfl, s, _, rfl, .inl (SqL.of hs), p, l, B, _, rfl, hP, hB, by omega, by omega, fun z H' z0 z1 hP' kp => ?_⟩
    have hzn : z.toNat < xs.length := by omega
    exact ⟨s, xs, z, xs[z.toNat], rfl, rfl, SqL.of (kp _ _ hne hs), at_of (j := z.toNat) (by omega) (List.getElem?_eq_getElem hzn), k _ _ (List.getElem_mem hzn) hP' kp⟩
end
end Vf

set_option maxRecDepth 100000
set_option maxHeartbeats 8000000
namespace Vf
open PySem PySem.Spec PyProof.Rows L2
/-! ### the errors' own __init__ -/
def fl (names : List Str) (xs : List V) : List (Str × V) := (names.zip xs).reverse
/-- self.f = f, for each of the names -/
def spIni (C : Addr) (names : List Str) : Sp := fun vs H Q _ => ∃ (a : Addr) (xs : List V), vs = .ref a :: xs ∧ xs.length = names.length ∧ H a = some (exo a C none) ∧
  ∀ (d : Addr) (H' : Hp), H d = none → d ≠ a → H' a = some (exo a C (some d)) → H' d = some (exd d (fl names xs)) → (∀ b o, b ≠ a → H b = some o → H' b = some o) → Q .non H'
theorem keep2 {H : Hp} {a d : Addr} {o u : HO} (n : H d = none) : ∀ b z, b ≠ a → H b = some z → upd (upd H d o) a u b = some z := fun b z h e => by
  rw [upd_ne h, upd_ne (ne_of_none e n)]
  exact e
theorem keep3 {H1 H : Hp} {a d : Addr} {u : HO} (n : H d = none) (k : ∀ b z, b ≠ a → H b = some z → H1 b = some z) : ∀ b z, b ≠ a → H b = some z → upd H1 d u b = some z := fun b z h e => by
  rw [upd_ne (ne_of_none e n)]
  exact k b z h e
section
variable {P : Program} {w : World} {K : PySem.W.Frag} {mg : Str → Option Value} {base : Heap}
theorem scBadNumber : FnScope ["self", "what", "number"] ["self", "what", "number"] (defScope (inClass (topS 8) 0)) := ⟨rfl, rfl, rfl, by decide +kernel, rfl, by decide +kernel, by decide +kernel⟩
theorem iniBadNumber {f C : Addr} {fd : FuncData} (F : Fun K "__init__" "BadNumber.__init__" (inClass (topS 8) 0) f fd) (T : OexC K C) (n1 : PySem.W.findIn K (.ref C) "what" = some none) (n2 : PySem.W.findIn K (.ref C) "number" = some none) :
    FnOk P w K mg base CX0 1 f fd ["self", "what", "number"] (spIni C ["what", "number"]) := by
  refine F.ok scBadNumber (fun vs H Q E h => ?_) (fun cdv A outer s H vs Q E hr h => ?_)
  · obtain ⟨a, xs, rfl, hl, _⟩ := h
    rw [List.length_cons, hl]
    all_goals rfl
  · obtain ⟨a, xs, rfl, hl, ha, k⟩ := h
    match xs, hl with
    | [v1, v2], _ =>
    refine ⟨_, (pss_cons (ps_ost (pv 0) (pv 1)) (pss_one (ps_ost (pv 0) (pv 2)))), ?_⟩
    refine ⟨_, rfl, _, rfl, a, C, rfl, T, n1, .inl ⟨ha, fun d nd ne => ?_⟩⟩
    have e1 : (upd (upd H d (exd d [("what", v1)])) a (exo a C (some d))) a = some (exo a C (some d)) := upd_same
    have e2 : (upd (upd H d (exd d [("what", v1)])) a (exo a C (some d))) d = some (exd d [("what", v1)]) := by rw [upd_ne ne]; exact upd_same
    have e3 := keep2 (H := H) (a := a) (d := d) (o := exd d [("what", v1)]) (u := exo a C (some d)) nd
    generalize upd (upd H d (exd d [("what", v1)])) a (exo a C (some d)) = H1 at e1 e2 e3
    refine ⟨_, rfl, _, rfl, a, C, rfl, T, n2, .inr ⟨d, _, e1, e2, (by show 1 ≤ 900; decide), ?_⟩⟩
    exact k d _ nd ne (by rw [upd_ne ne.symm]; exact e1) upd_same (keep3 nd e3)
theorem scBadRow : FnScope ["self", "row"] ["self", "row"] (defScope (inClass (topS 9) 0)) := ⟨rfl, rfl, rfl, by decide +kernel, rfl, by decide +kernel, by decide +kernel⟩
theorem iniBadRow {f C : Addr} {fd : FuncData} (F : Fun K "__init__" "BadRow.__init__" (inClass (topS 9) 0) f fd) (T : OexC K C) (n1 : PySem.W.findIn K (.ref C) "row" = some none) :
    FnOk P w K mg base CX0 1 f fd ["self", "row"] (spIni C ["row"]) := by
  refine F.ok scBadRow (fun vs H Q E h => ?_) (fun cdv A outer s H vs Q E hr h => ?_)
  · obtain ⟨a, xs, rfl, hl, _⟩ := h
    rw [List.length_cons, hl]
    all_goals rfl
  · obtain ⟨a, xs, rfl, hl, ha, k⟩ := h
    match xs, hl with
    | [v1], _ =>
    refine ⟨_, (pss_one (ps_ost (pv 0) (pv 1))), ?_⟩
    refine ⟨_, rfl, _, rfl, a, C, rfl, T, n1, .inl ⟨ha, fun d nd ne => ?_⟩⟩
    exact k d _ nd ne upd_same (by rw [upd_ne ne]; exact upd_same) (keep2 nd)
end
/-! ### ratios: the program's own defs -/
def tyD : PyData → String
  | .none => "NoneType"
  | .bool _ => "bool"
  | .int _ => "int"
  | .str _ => "str"
  | .list _ => "list"
  | .tuple _ => "tuple"
  | .dict _ => "dict"
theorem Dt.ty {K : PySem.W.Frag} {H : Hp} {v : V} {d : PyData} (h : Dt K H v d) : TyX K H v (.type (tyD d)) := by
  cases h with
  | non => exact .base .non
  | bl b => exact .base (.bl b)
  | int i => exact .base (.int i)
  | str x => exact .base (.str x)
  | lst h1 _ =>
    rcases h1 with (h1 | ⟨o, h1⟩) | ⟨o, _, _, h1, h2, _⟩
    · exact .base (.lst h1)
    · exact .base (.frz h1)
    · exact .kList h1 h2
  | tup h1 _ =>
    rcases h1 with (h1 | ⟨o, h1⟩) | ⟨o, _, _, h1, h2, _⟩
    · exact .base (.tup h1)
    · exact .fTuple h1
    · exact .kTuple h1 h2
  | dct h1 _ => exact .base (.dK h1)
def intD : PyData → Bool
  | .int _ => true
  | .bool _ => true
  | _ => false
def boolD : PyData → Bool
  | .bool _ => true
  | _ => false
def wholeD : PyData → Bool
  | .int _ => true
  | _ => false
theorem kit_int {K : PySem.W.Frag} (d : PyData) : PySem.W.kitOne K (.type (tyD d)) (.type "int") = some (intD d) := by
  cases d with
  | none => exact kit_ty (show kitB "NoneType" "int" = some false by decide +kernel)
  | bool _ => exact kit_ty (show kitB "bool" "int" = some true by decide +kernel)
  | int _ => exact kit_ty (show kitB "int" "int" = some true by decide +kernel)
  | str _ => exact kit_ty (show kitB "str" "int" = some false by decide +kernel)
  | list _ => exact kit_ty (show kitB "list" "int" = some false by decide +kernel)
  | tuple _ => exact kit_ty (show kitB "tuple" "int" = some false by decide +kernel)
  | dict _ => exact kit_ty (show kitB "dict" "int" = some false by decide +kernel)
theorem kit_bool {K : PySem.W.Frag} (d : PyData) : PySem.W.kitOne K (.type (tyD d)) (.type "bool") = some (boolD d) := by
  cases d with
  | none => exact kit_ty (show kitB "NoneType" "bool" = some false by decide +kernel)
  | bool _ => exact kit_ty (show kitB "bool" "bool" = some true by decide +kernel)
  | int _ => exact kit_ty (show kitB "int" "bool" = some false by decide +kernel)
  | str _ => exact kit_ty (show kitB "str" "bool" = some false by decide +kernel)
  | list _ => exact kit_ty (show kitB "list" "bool" = some false by decide +kernel)
  | tuple _ => exact kit_ty (show kitB "tuple" "bool" = some false by decide +kernel)
  | dict _ => exact kit_ty (show kitB "dict" "bool" = some false by decide +kernel)
/-- a ratio's top and bottom, as it is passed -/
def pair? : List PyData → Option (Int × Int)
  | [.int a, .int b] => if 0 < b then some (a, b) else none
  | _ => none
def partsD : PyData → Option (Int × Int)
  | .int i => some (i, 1)
  | .list ds => pair? ds
  | .tuple ds => pair? ds
  | _ => none
def seqD : PyData → Option (List PyData)
  | .list ds => some ds
  | .tuple ds => some ds
  | _ => none
theorem kit_seq {K : PySem.W.Frag} (d : PyData) : PySem.W.kitAny K (.type (tyD d)) [.type "tuple", .type "list"] = some (seqD d).isSome := by
  have two : ∀ {a b : Bool} {t : String}, kitB t "tuple" = some a → kitB t "list" = some b → PySem.W.kitAny K (.type t) [.type "tuple", .type "list"] = some (a || b) := fun {a b t} h1 h2 =>
    kitAny_cons (kit_ty h1) (fun e => by rw [e, Bool.false_or]; exact kitAny_cons (kit_ty h2) (fun e2 => by rw [e2]; exact kitAny_nil) (fun e2 => e2)) (fun e => by rw [e, Bool.true_or])
  cases d with
  | none => exact two (a := false) (b := false) (show kitB "NoneType" "tuple" = some false by decide +kernel) (show kitB "NoneType" "list" = some false by decide +kernel)
  | bool _ => exact two (a := false) (b := false) (show kitB "bool" "tuple" = some false by decide +kernel) (show kitB "bool" "list" = some false by decide +kernel)
  | int _ => exact two (a := false) (b := false) (show kitB "int" "tuple" = some false by decide +kernel) (show kitB "int" "list" = some false by decide +kernel)
  | str _ => exact two (a := false) (b := false) (show kitB "str" "tuple" = some false by decide +kernel) (show kitB "str" "list" = some false by decide +kernel)
  | list _ => exact two (a := false) (b := true) (show kitB "list" "tuple" = some false by decide +kernel) (show kitB "list" "list" = some true by decide +kernel)
  | tuple _ => exact two (a := true) (b := false) (show kitB "tuple" "tuple" = some true by decide +kernel) (show kitB "tuple" "list" = some false by decide +kernel)
  | dict _ => exact two (a := false) (b := false) (show kitB "dict" "tuple" = some false by decide +kernel) (show kitB "dict" "list" = some false by decide +kernel)
/-- built-in names that the text leaves alone, and gcd -/
structure Bk (mg : Str → Option Value) : Prop extends Bi mg where
  isinstance : mg "isinstance" = none
  bool : mg "bool" = none
  tuple : mg "tuple" = none
  abs : mg "abs" = none
  str : mg "str" = none
  gcd : mg "gcd" = some (.builtin "math.gcd")
/-- an error class with one __init__ of its own, as it is raised -/
structure Ex (P : Program) (w : World) (K : PySem.W.Frag) (mg : Str → Option Value) (base : Heap) (x : Str) (C : Addr) (names : List Str) where
  ox : OexC K C
  f : Addr
  fd : FuncData
  m : mg x = some (.ref C)
  iC : PySem.W.findIn K (.ref C) "__init__" = some (some (.ref f))
  tI : PySem.W.typeIn K (.ref f) = some (.type "function")
  b : Binds K fd ("self" :: names) []
  ok : FnOk P w K mg base CX0 1 f fd ("self" :: names) (spIni C names)
/-- a def of the text that may raise -/
structure Dx (P : Program) (w : World) (K : PySem.W.Frag) (mg : Str → Option Value) (base : Heap) (x : Str) (k : Nat) (ps : List Str) (sp : Sp) where
  f : Addr
  fd : FuncData
  m : mg x = some (.ref f)
  kp : PySem.W.keepIn K (.ref f) = true
  b : Binds K fd ps []
  ok : FnOk P w K mg base (L2.CX P w) k f fd ps sp
/-- what raise X(e, ..) leaves -/
theorem raise_end {C : Addr} {names : List Str} {H1 : Hp} {vs : List V} {W : XK} (hl : vs.length = names.length) (h : ∀ d H', Same H1 H' → H1 d = none → H' d = some (.xd (fl names vs)) → W (.ref C) (some d) H') :
    ∀ a, H1 a = none → spIni C names (.ref a :: (vs ++ [])) (upd H1 a (exo a C none)) (fun v H2 => v = .non ∧ ∃ (d : Addr) (fs : List (Str × V)), H2 a = some (exo a C (some d)) ∧ H2 d = some (exd d fs) ∧ H1 d = none ∧ W (.ref C) (some d) (upd (del H2 a) d (.xd fs))) (fun _ _ _ => False) := fun a na => by
  refine ⟨a, vs, by rw [List.append_nil], hl, upd_same, fun d H' nd ne ea ed k => ⟨rfl, d, fl names vs, ea, ed, ?_, ?_⟩⟩
  · rw [upd_ne ne] at nd
    exact nd
  · rw [upd_ne ne] at nd
    refine h d _ (fun b o e => ?_) nd upd_same
    have n1 := ne_of_none e na
    rw [upd_ne (ne_of_none e nd), del_ne n1]
    exact k b o n1 (by rw [upd_ne n1]; exact e)

def spWhole (K : PySem.W.Frag) : Sp := fun vs H Q _ => ∃ (v : V) (d : PyData), vs = [v] ∧ Dt K H v d ∧ Q (.bl (wholeD d)) H
def spIsRatio (K : PySem.W.Frag) : Sp := fun vs H Q _ => ∃ (v : V) (d : PyData), vs = [v] ∧ Dt K H v d ∧ ∀ H', Same H H' → Q (.bl (partsD d).isSome) H'
def big : Nat := 4000
def spLow : Sp := fun vs H Q _ => ∃ t b : Int, vs = [.int t, .int b] ∧ b ≠ 0 ∧ b.natAbs < 2 ^ big ∧ ∀ (p : Addr) (H' : Hp), Same H H' → H p = none → H' p = some (.tup [.int (low t b).1, .int (low t b).2]) → Q (.ref p) H'
/-- an error of BadNumber -/
def RaisesN (CN : Addr) (H : Hp) (wv v : V) (E : XK) : Prop := ∀ (d : Addr) (H' : Hp), Same H H' → H d = none → H' d = some (.xd (fl ["what", "number"] [wv, v])) → E (.ref CN) (some d) H'
theorem RaisesN.same {CN : Addr} {H H1 : Hp} {wv v : V} {E : XK} (s : Same H H1) (h : RaisesN CN H wv v E) : RaisesN CN H1 wv v E := fun d H' s' n e => h d H' (s.trans s') (s.free n) e
def spParts (K : PySem.W.Frag) (CN : Addr) : Sp := fun vs H Q E => ∃ (v wv : V) (d : PyData), vs = [v, wv] ∧ Dt K H v d ∧
  (∀ t b, partsD d = some (t, b) → ∀ (p : Addr) (H' : Hp), Same H H' → H' p = some (.tup [.int t, .int b]) → Q (.ref p) H') ∧ (partsD d = none → RaisesN CN H wv v E)
def spTold (K : PySem.W.Frag) (CN : Addr) : Sp := fun vs H Q E => ∃ (v wv : V) (d : PyData), vs = [v, wv] ∧ Dt K H v d ∧
  (∀ t b, partsD d = some (t, b) → b.natAbs < 2 ^ big ∧ ∀ (p : Addr) (H' : Hp), Same H H' → H' p = some (.tup [.int (low t b).1, .int (low t b).2]) → Q (.ref p) H') ∧ (partsD d = none → RaisesN CN H wv v E)
theorem pair_pos {ds : List PyData} {t b : Int} (h : pair? ds = some (t, b)) : ds = [.int t, .int b] ∧ 0 < b := by
  unfold pair? at h
  split at h
  · split at h
    · rename_i hb
      cases h
      exact ⟨rfl, hb⟩
    · cases h
  · cases h
theorem parts_pos {d : PyData} {t b : Int} (h : partsD d = some (t, b)) : 0 < b := by
  unfold partsD at h
  split at h
  · cases h
    decide
  · exact (pair_pos h).2
  · exact (pair_pos h).2
  · cases h
section
variable {P : Program} {w : World} {K : PySem.W.Frag} {mg : Str → Option Value} {base : Heap} {CN : Addr}
abbrev sIsWhole : Stmt := topS 15
abbrev sIsRatio : Stmt := topS 16
abbrev sLowest : Stmt := topS 18
abbrev sParts : Stmt := topS 19
abbrev sTold : Stmt := topS 20
theorem scIsWhole : FnScope ["value"] ["value"] (defScope sIsWhole) := ⟨rfl, rfl, rfl, by decide +kernel, rfl, by decide +kernel, by decide +kernel⟩
theorem ok_is_whole {f : Addr} {fd : FuncData} (F : Fun K "is_whole" "is_whole" sIsWhole f fd) (T : Bk mg) : FnOk P w K mg base CX0 1 f fd ["value"] (spWhole K) := by
  refine F.ok scIsWhole (fun vs H Q E h => ?_) (fun cdv A outer s H vs Q E hr h => ?_)
  · obtain ⟨v, d, rfl, _⟩ := h
    rfl
  · obtain ⟨v, d, rfl, hd, q⟩ := h
    refine ⟨_, (pss_one (ps_ret (pe_and (pe_callB call_isi (by rfl) T.isinstance (by decide +kernel) (pa_cons (pv 0) (pa_cons (pe_bltn (v := V.ty "int") (by rfl) T.int (by decide +kernel) rfl) pa_nil)))
      (pe_one (pe_not (pe_callB call_isi (by rfl) T.isinstance (by decide +kernel) (pa_cons (pv 0) (pa_cons (pe_bltn (v := V.ty "bool") (by rfl) T.bool (by decide +kernel) rfl) pa_nil)))))))), ?_⟩
    refine ⟨_, rfl, v, .ty "int", _, .type "int", _, rfl, .ty _, hd.ty, kit_int d, _, rfl, ?_⟩
    cases hi : intD d with
    | false =>
      refine iteF ?_
      have e : wholeD d = false := by cases d <;> first | rfl | (exact absurd hi (fun z => by cases z))
      rw [e] at q
      exact q
    | true =>
      refine iteT ?_
      refine ⟨_, rfl, v, .ty "bool", _, .type "bool", _, rfl, .ty _, hd.ty, kit_bool d, _, rfl, ?_⟩
      have e : wholeD d = !boolD d := by cases d <;> first | rfl | (exact absurd hi (fun z => by cases z))
      rw [e] at q
      exact q
theorem dts2 {H : Hp} {vs : List V} {a b : PyData} (h : Dts K H vs [a, b]) : ∃ x y, vs = [x, y] ∧ Dt K H x a ∧ Dt K H y b := by
  cases h with
  | cons h1 h2 =>
    cases h2 with
    | cons h3 h4 =>
      cases h4
      exact ⟨_, _, rfl, h1, h3⟩
/-- an item of a list or tuple -/
theorem seq_at {H : Hp} {a : Addr} {xs : List V} {Q : V → Hp → Prop} {z : Int} {x : V} (h : SqL K H a xs ∨ SqT K H a xs) (e : atI xs z = some x) (q : Q x H) : rIx K (.ref a) (.int z) H Q := by
  rcases h with h | h
  · exact .inl ⟨a, xs, z, x, rfl, rfl, h, e, q⟩
  · exact .inr (.inl ⟨a, xs, z, x, rfl, rfl, h, e, q⟩)
theorem Dt.seq {H : Hp} {v : V} {d : PyData} {ds : List PyData} (h : Dt K H v d) (e : seqD d = some ds) : ∃ a vs, v = .ref a ∧ (SqL K H a vs ∨ SqT K H a vs) ∧ Dts K H vs ds := by
  cases h with
  | lst h1 h2 =>
    cases e
    exact ⟨_, _, rfl, .inl h1, h2⟩
  | tup h1 h2 =>
    cases e
    exact ⟨_, _, rfl, .inr h1, h2⟩
  | _ => cases e
theorem seq_same {H H' : Hp} {a : Addr} {vs : List V} (s : Same H H') (h : SqL K H a vs ∨ SqT K H a vs) : SqL K H' a vs ∨ SqT K H' a vs := h.imp (same_sqL s) (same_sqT s)
theorem scIsRatio : FnScope ["value"] ["value"] (defScope sIsRatio) := ⟨rfl, rfl, rfl, by decide +kernel, rfl, by decide +kernel, by decide +kernel⟩
theorem ok_is_ratio {f : Addr} {fd : FuncData} (F : Fun K "is_ratio" "is_ratio" sIsRatio f fd) (T : Bk mg) (Gw : Df P w K mg base "is_whole" 1 ["value"] (spWhole K)) : FnOk P w K mg base CX0 2 f fd ["value"] (spIsRatio K) := by
  refine F.ok scIsRatio (fun vs H Q E h => ?_) (fun cdv A outer s H vs Q E hr h => ?_)
  · obtain ⟨v, d, rfl, _⟩ := h
    rfl
  · obtain ⟨v, d, rfl, hd, q⟩ := h
    refine ⟨_, (pss_cons (ps_if (pt_val (pe_callB call_isiT (by rfl) T.isinstance (by decide +kernel) (pa_cons (pv 0) (pa_cons (pe_tup (pa_cons (pe_bltn (v := V.ty "tuple") (by rfl) T.tuple (by decide +kernel) rfl) (pa_cons (pe_bltn (v := V.ty "list") (by rfl) T.list (by decide +kernel) rfl) pa_nil))) pa_nil))))
      (pss_one (ps_ret (pe_and (pe_cmpR op_eq (pe_callB call_len_seq (by rfl) T.len (by decide +kernel) (pa_cons (pv 0) pa_nil)) pe_int (nomark _)) (pe_and (pe_call Gw.ok hr rfl Gw.m Gw.kp Gw.b .nil pass0 (pa_cons (pe_ix ix_seq (pv 0) pe_int (fun _ _ => rfl)) pa_nil)) (pe_and (pe_call Gw.ok hr rfl Gw.m Gw.kp Gw.b .nil pass0 (pa_cons (pe_ix ix_seq (pv 0) pe_int (fun _ _ => rfl)) pa_nil)) (pe_one (pe_cmpR op_gt (pe_ix ix_seq (pv 0) pe_int (fun _ _ => rfl)) pe_int (nomark _))))))))
      pss_nil)
      (pss_one (ps_ret (pe_call Gw.ok hr rfl Gw.m Gw.kp Gw.b .nil pass0 (pa_cons (pv 0) pa_nil))))), ?_⟩
    refine ⟨_, rfl, (by show 2 ≤ sizeLine; decide), fun tp ntp => ?_⟩
    have s1 : Same H (upd H tp (HO.tup [V.ty "tuple", V.ty "list"])) := same_upd ntp
    have e1 : upd H tp (HO.tup [V.ty "tuple", V.ty "list"]) tp = some (HO.tup [V.ty "tuple", V.ty "list"]) := upd_same
    generalize upd H tp (HO.tup [V.ty "tuple", V.ty "list"]) = H1 at s1 e1 ⊢
    have hd1 := hd.mono s1
    have q1 := q H1 s1
    refine ⟨v, tp, _, _, [.type "tuple", .type "list"], _, rfl, e1, .cons (.ty _) (.cons (.ty _) .nil), hd1.ty, kit_seq d, _, rfl, ?_⟩
    cases hs : seqD d with
    | none =>
      refine iteF ?_
      refine ⟨_, rfl, v, d, rfl, hd1, ?_⟩
      have e : (partsD d).isSome = wholeD d := by cases d <;> first | rfl | cases hs
      rw [e] at q1
      exact q1
    | some ds =>
      refine iteT ?_
      have ep : partsD d = pair? ds := by cases d <;> first | (cases hs; rfl) | cases hs
      rw [ep] at q1
      obtain ⟨a, vs, rfl, hsq, hds⟩ := hd1.seq hs
      refine ⟨_, rfl, a, vs, rfl, hsq, rfl, _, rfl, ?_⟩
      by_cases hl : vs.length = 2
      · rw [decide_eq_true (by rw [hl]; rfl)]
        refine iteT ?_
        have hl2 : ds.length = 2 := by rw [← hds.len]; exact hl
        match ds, hl2 with
        | [d0, d1], _ =>
        obtain ⟨x, y, rfl, hx, hy⟩ := dts2 hds
        refine ⟨_, rfl, seq_at hsq (at_of (j := 0) rfl rfl) ?_⟩
        refine ⟨x, d0, rfl, hx, _, rfl, ?_⟩
        cases h0 : wholeD d0 with
        | false =>
          refine iteF ?_
          have e : pair? [d0, d1] = none := by cases d0 <;> first | rfl | (cases h0)
          rw [e] at q1
          exact q1
        | true =>
          refine iteT ?_
          refine ⟨_, rfl, seq_at hsq (at_of (j := 1) rfl rfl) ?_⟩
          refine ⟨y, d1, rfl, hy, _, rfl, ?_⟩
          cases h1 : wholeD d1 with
          | false =>
            refine iteF ?_
            have e : pair? [d0, d1] = none := by cases d0 <;> cases d1 <;> first | rfl | (cases h1) | (cases h0)
            rw [e] at q1
            exact q1
          | true =>
            refine iteT ?_
            obtain ⟨i, rfl⟩ : ∃ i, d0 = .int i := by cases d0 <;> first | exact ⟨_, rfl⟩ | cases h0
            obtain ⟨j, rfl⟩ : ∃ j, d1 = .int j := by cases d1 <;> first | exact ⟨_, rfl⟩ | cases h1
            cases hy
            refine ⟨_, rfl, seq_at hsq (at_of (j := 1) rfl rfl) ?_⟩
            refine ⟨_, _, rfl, rfl, ?_⟩
            have e : (pair? [PyData.int i, PyData.int j]).isSome = decide (0 < j) := by
              show (if 0 < j then some (i, j) else none).isSome = decide (0 < j)
              by_cases hj : 0 < j
              · rw [if_pos hj, decide_eq_true hj]; rfl
              · rw [if_neg hj, decide_eq_false hj]; rfl
            rw [e] at q1
            exact q1
      · rw [decide_eq_false (fun z => hl (by have z2 := V.int.inj z; omega))]
        refine iteF ?_
        have e : pair? ds = none := by
          cases hp : pair? ds with
          | none => rfl
          | some tb =>
            obtain ⟨t, b⟩ := tb
            have z := (pair_pos hp).1
            rw [hds.len, z] at hl
            exact absurd rfl hl
        rw [e] at q1
        exact q1
theorem scLowest : FnScope ["top", "bottom", "shared"] ["top", "bottom"] (defScope sLowest) := ⟨rfl, rfl, rfl, by decide +kernel, rfl, by decide +kernel, by decide +kernel⟩
theorem log_of {z : Int} {k : Nat} (hk : 0 < k) (h : z.natAbs < 2 ^ k) : z.natAbs.log2 < k := PySem.Flt.log2_lt_of hk h
theorem sg_cdiv {t b x : Int} (h : b ≠ 0) (hb : b.natAbs < 2 ^ big) : CDivZ x (sg t b) :=
  ⟨sg_ne h, Nat.lt_trans (log_of (k := big) (by decide) (Nat.lt_of_le_of_lt (sg_size h) hb)) (by decide)⟩
theorem ok_lowest {f : Addr} {fd : FuncData} (F : Fun K "lowest" "lowest" sLowest f fd) (T : Bk mg) : FnOk P w K mg base CX0 1 f fd ["top", "bottom"] spLow := by
  refine F.ok scLowest (fun vs H Q E h => ?_) (fun cdv A outer s H vs Q E hr h => ?_)
  · obtain ⟨t, b, rfl, _⟩ := h
    rfl
  · obtain ⟨t, b, rfl, hb, hz, q⟩ := h
    refine ⟨_, (pss_cons (ps_set (i := 2) scLowest.nd rfl (Or.inl rfl) (pe_callBfun cr_gcd (by rfl) T.gcd (pa_cons (pv 0) (pa_cons (pv 1) pa_nil))))
      (C8.pss_cut (ps_if (pt_cmpR op_lt (pv 1) pe_int (nomark _)) (pss_one (ps_set (i := 2) scLowest.nd rfl (Or.inl rfl) (pe_un un_neg (pv 2)))) pss_nil)
      (pss_one (ps_ret (pe_tup (pa_cons (pe_op op_fdivZ (pv 0) (pv 2)) (pa_cons (pe_op op_fdivZ (pv 1) (pv 2)) pa_nil))))))), ?_⟩
    refine ⟨_, rfl, _, rfl, t, b, rfl, fun σ H2 => H2 = H ∧ σ = [some (.int t), some (.int b), some (.int (sg t b))], ?_, ?_⟩
    · refine ⟨_, rfl, _, _, rfl, rfl, _, rfl, ?_⟩
      refine ite2 (fun hlt => ?_) (fun hlt => ?_)
      · have h2 : b < 0 := of_decide_eq_true hlt
        refine ⟨_, rfl, _, rfl, rfl, ?_⟩
        unfold sg
        rw [if_pos h2]
        rfl
      · have h2 : ¬ b < 0 := fun z => hlt (decide_eq_true z)
        refine ⟨rfl, ?_⟩
        unfold sg
        rw [if_neg h2]
        rfl
    · rintro σ H2 ⟨rfl, rfl⟩
      refine ⟨_, rfl, _, rfl, _, _, rfl, rfl, sg_cdiv hb hz, _, rfl, _, rfl, _, _, rfl, rfl, sg_cdiv hb hz, (by show 2 ≤ sizeLine; decide), fun p np => ?_⟩
      exact q p _ (same_upd np) np upd_same
theorem scParts : FnScope ["value", "what"] ["value", "what"] (defScope sParts) := ⟨rfl, rfl, rfl, by decide +kernel, rfl, by decide +kernel, by decide +kernel⟩
theorem ok_parts {f : Addr} {fd : FuncData} (F : Fun K "parts_of" "parts_of" sParts f fd) (T : Bk mg) (Gr : Df P w K mg base "is_ratio" 2 ["value"] (spIsRatio K)) (N : Ex P w K mg base "BadNumber" CN ["what", "number"]) :
    FnOk P w K mg base (L2.CX P w) 3 f fd ["value", "what"] (spParts K CN) := by
  refine F.okX scParts (fun vs H Q E h => ?_) (fun cdv A outer s H vs Q E hr h => ?_)
  · obtain ⟨v, wv, d, rfl, _⟩ := h
    rfl
  · obtain ⟨v, wv, d, rfl, hd, q, e⟩ := h
    refine ⟨_, (pss_cons (ps_if (pt_not (pt_val (pe_call Gr.ok hr rfl Gr.m Gr.kp Gr.b .nil pass0 (pa_cons (pv 0) pa_nil))))
        (pss_one (ps_raise rfl (takes_of rfl rfl rfl rfl) (pmk_oex N.ox N.iC N.tI N.ok hr N.b .nil pass0 (by rfl) N.m (pa_cons (pv 1) (pa_cons (pv 0) pa_nil)))))
        pss_nil)
      (pss_cons (ps_if (pt_val (pe_callB call_isi (by rfl) T.isinstance (by decide +kernel) (pa_cons (pv 0) (pa_cons (pe_bltn (v := V.ty "int") (by rfl) T.int (by decide +kernel) rfl) pa_nil))))
        (pss_one (ps_ret (pe_tup (pa_cons (pv 0) (pa_cons pe_int pa_nil)))))
        pss_nil)
      (pss_one (ps_ret (pe_tup (pa_cons (pe_ix ix_seq (pv 0) pe_int (fun _ _ => rfl)) (pa_cons (pe_ix ix_seq (pv 0) pe_int (fun _ _ => rfl)) pa_nil))))))), ?_⟩
    refine ⟨_, rfl, v, d, rfl, hd, fun H1 s1 => ⟨_, rfl, ?_⟩⟩
    have hd1 := hd.mono s1
    cases hp : partsD d with
    | none =>
      refine iteT ?_
      refine ⟨_, rfl, _, rfl, (by show 2 ≤ 1000; decide), ?_⟩
      exact raise_end rfl fun dd H' s2 n e2 => (e hp).same s1 dd H' s2 n e2
    | some tb =>
      obtain ⟨t, b⟩ := tb
      refine iteF ?_
      refine ⟨_, rfl, v, .ty "int", _, .type "int", _, rfl, .ty _, hd1.ty, kit_int d, _, rfl, ?_⟩
      cases hs : seqD d with
      | none =>
        obtain ⟨i, rfl⟩ : ∃ i, d = .int i := by cases d <;> first | exact ⟨_, rfl⟩ | cases hp | cases hs
        cases hp
        cases hd1
        refine iteT ?_
        refine ⟨_, rfl, (by show 2 ≤ sizeLine; decide), fun p np => ?_⟩
        exact q _ _ rfl p _ (s1.trans (same_upd np)) upd_same
      | some ds =>
        have hi : intD d = false := by cases d <;> first | rfl | cases hs
        rw [hi]
        refine iteF ?_
        have ep : partsD d = pair? ds := by cases d <;> first | (cases hs; rfl) | cases hs
        have hp2 := hp
        rw [ep] at hp2
        obtain ⟨rfl, hb⟩ := pair_pos hp2
        obtain ⟨a, vs, rfl, hsq, hds⟩ := hd1.seq hs
        obtain ⟨x, y, rfl, hx, hy⟩ := dts2 hds
        cases hx
        cases hy
        refine ⟨_, rfl, seq_at hsq (at_of (j := 0) rfl rfl) ?_⟩
        refine ⟨_, rfl, seq_at hsq (at_of (j := 1) rfl rfl) ?_⟩
        refine ⟨(by show 2 ≤ sizeLine; decide), fun p np => ?_⟩
        exact q _ _ hp p _ (s1.trans (same_upd np)) upd_same
theorem scTold : FnScope ["value", "what", "top", "bottom"] ["value", "what"] (defScope sTold) := ⟨rfl, rfl, rfl, by decide +kernel, rfl, by decide +kernel, by decide +kernel⟩
theorem ok_told {f : Addr} {fd : FuncData} (F : Fun K "told" "told" sTold f fd) (Gp : Dx P w K mg base "parts_of" 3 ["value", "what"] (spParts K CN)) (Gl : Df P w K mg base "lowest" 1 ["top", "bottom"] spLow) :
    FnOk P w K mg base (L2.CX P w) 4 f fd ["value", "what"] (spTold K CN) := by
  refine F.okX scTold (fun vs H Q E h => ?_) (fun cdv A outer s H vs Q E hr h => ?_)
  · obtain ⟨v, wv, d, rfl, _⟩ := h
    rfl
  · obtain ⟨v, wv, d, rfl, hd, q, e⟩ := h
    refine ⟨_, (pss_cons (ps_asg (pe_call Gp.ok hr rfl Gp.m Gp.kp Gp.b .nil (E := E) (passes_call (takes_of rfl rfl rfl rfl) (fun _ _ _ _ h => h)) (pa_cons (pv 0) (pa_cons (pv 1) pa_nil))) (pg_tup (by rfl) (pgs_cons (pg_name (i := 2) scTold.nd rfl (Or.inl rfl)) (pgs_cons (pg_name (i := 3) scTold.nd rfl (Or.inl rfl)) pgs_nil))))
      (pss_one (ps_ret (pe_call Gl.ok (hr.mono (by decide)) rfl Gl.m Gl.kp Gl.b .nil pass0 (pa_cons (pv 2) (pa_cons (pv 3) pa_nil)))))), ?_⟩
    refine ⟨_, rfl, _, rfl, v, wv, d, rfl, hd, fun t b hp p H1 s1 e1 => ?_, e⟩
    obtain ⟨hz, q⟩ := q t b hp
    have hb := parts_pos hp
    refine ⟨p, _, rfl, SqT.of e1, rfl, _, _, rfl, _, _, rfl, rfl, ?_⟩
    refine ⟨_, rfl, _, rfl, t, b, rfl, by omega, hz, fun p2 H2 s2 n2 e2 => ?_⟩
    exact q p2 H2 (s1.trans s2) e2
end
end Vf

set_option maxRecDepth 100000
set_option maxHeartbeats 8000000
namespace Vf
open PySem PySem.Spec PyProof.Rows L2
/-! ### two ratios -/
/-- below 2 ^ 200 in size -/
def Sz (z : Int) : Prop := z.natAbs < 2 ^ 200
theorem sz_mulW {x y : Int} (h1 : Sz x) (h2 : Sz y) : CMulW x y := wide_mul h1 h2 (by decide) (by decide) (by decide)
theorem sz_mul {x y : Int} (h1 : Sz x) (h2 : Sz y) : (x * y).natAbs < 2 ^ 400 := wide_lt h1 h2
/-- what a def of two ratios promises: of the right ones ok, of the first wrong one the error -/
def spTwo (K : PySem.W.Frag) (CN : Addr) (ok : V → Int → Int → Int → Int → Hp → VK → XK → Prop) : Sp := fun vs H Q E => ∃ (v u : V) (d e : PyData), vs = [v, u] ∧ Dt K H v d ∧ Dt K H u e ∧
  (∀ t b x c, partsD d = some (t, b) → partsD e = some (x, c) → Sz t ∧ Sz b ∧ Sz x ∧ Sz c ∧ ok u t b x c H Q E) ∧
  (partsD d = none → RaisesN CN H (.str "ratio") v E) ∧ ((partsD d).isSome = true → partsD e = none → RaisesN CN H (.str "ratio") u E)
def okLow (g : Int → Int → Int → Int → Int × Int) : V → Int → Int → Int → Int → Hp → VK → XK → Prop := fun _ t b x c H Q _ =>
  ∀ (p : Addr) (H' : Hp), Same H H' → H' p = some (.tup [.int (low (g t b x c).1 (g t b x c).2).1, .int (low (g t b x c).1 (g t b x c).2).2]) → Q (.ref p) H'
def gPlus (t b x c : Int) : Int × Int := (t * c + x * b, b * c)
def gMinus (t b x c : Int) : Int × Int := (t * c - x * b, b * c)
def gTimes (t b x c : Int) : Int × Int := (t * x, b * c)
def gShare (t b x c : Int) : Int × Int := (t * c, b * x)
def okShare (CN : Addr) : V → Int → Int → Int → Int → Hp → VK → XK → Prop := fun u t b x c H Q E => (x = 0 → RaisesN CN H (.str "divisor") u E) ∧ (x ≠ 0 → okLow gShare u t b x c H Q E)
def okLower : V → Int → Int → Int → Int → Hp → VK → XK → Prop := fun _ t b x c H Q _ => ∀ H', Same H H' → Q (.bl (decide (t * c < x * b))) H'
section
variable {P : Program} {w : World} {K : PySem.W.Frag} {mg : Str → Option Value} {base : Heap} {CN : Addr}
abbrev sPlus : Stmt := topS 21
theorem scPlus : FnScope ["one", "other", "top", "bottom", "other_top", "other_bottom"] ["one", "other"] (defScope sPlus) := ⟨rfl, rfl, rfl, by decide +kernel, rfl, by decide +kernel, by decide +kernel⟩
theorem ok_plus {f : Addr} {fd : FuncData} (F : Fun K "plus" "plus" sPlus f fd) (Gp : Dx P w K mg base "parts_of" 3 ["value", "what"] (spParts K CN)) (Gl : Df P w K mg base "lowest" 1 ["top", "bottom"] spLow) (N : Ex P w K mg base "BadNumber" CN ["what", "number"]) :
    FnOk P w K mg base (L2.CX P w) 4 f fd ["one", "other"] (spTwo K CN (okLow gPlus)) := by
  refine F.okX scPlus (fun vs H Q E h => ?_) (fun cdv A outer s H vs Q E hr h => ?_)
  · obtain ⟨v, u, d, e, rfl, _⟩ := h
    rfl
  · obtain ⟨v, u, d, e, rfl, hd, he', q, r1, r2⟩ := h
    refine ⟨_, (pss_cons (ps_asg (pe_call Gp.ok hr rfl Gp.m Gp.kp Gp.b .nil (E := E) (passes_call (takes_of rfl rfl rfl rfl) (fun _ _ _ _ h => h)) (pa_cons (pv 0) (pa_cons pe_str pa_nil))) (pg_tup (by rfl) (pgs_cons (pg_name (i := 2) scPlus.nd rfl (Or.inl rfl)) (pgs_cons (pg_name (i := 3) scPlus.nd rfl (Or.inl rfl)) pgs_nil))))
      (pss_cons (ps_asg (pe_call Gp.ok hr rfl Gp.m Gp.kp Gp.b .nil (E := E) (passes_call (takes_of rfl rfl rfl rfl) (fun _ _ _ _ h => h)) (pa_cons (pv 1) (pa_cons pe_str pa_nil))) (pg_tup (by rfl) (pgs_cons (pg_name (i := 4) scPlus.nd rfl (Or.inl rfl)) (pgs_cons (pg_name (i := 5) scPlus.nd rfl (Or.inl rfl)) pgs_nil))))
      (pss_one (ps_ret (pe_call Gl.ok (hr.mono (by decide)) rfl Gl.m Gl.kp Gl.b .nil pass0 (pa_cons (pe_op op_add (pe_op op_mulW (pv 2) (pv 5)) (pe_op op_mulW (pv 4) (pv 3))) (pa_cons (pe_op op_mulW (pv 3) (pv 5)) pa_nil))))))), ?_⟩
    refine ⟨_, rfl, v, .str "ratio", d, rfl, hd, fun t b hp p H1 s1 e1 => ?_, r1⟩
    have r2 := r2 (by rw [hp]; rfl)
    have q := fun x c he => q t b x c hp he
    refine ⟨p, _, rfl, SqT.of e1, rfl, _, _, rfl, _, _, rfl, rfl, ?_⟩
    refine ⟨_, rfl, u, .str "ratio", e, rfl, he'.mono s1, fun x c he p2 H2 s2 e2 => ?_, fun z => (r2 z).same s1⟩
    refine ⟨p2, _, rfl, SqT.of e2, rfl, _, _, rfl, _, _, rfl, rfl, ?_⟩
    obtain ⟨ht, hb, hx, hc, q⟩ := q x c he
    have s12 := s1.trans s2
    refine ⟨_, rfl, _, rfl, _, _, rfl, rfl, sz_mulW ht hc, _, rfl, _, rfl, _, _, rfl, rfl, sz_mulW hx hb, _, _, rfl, rfl, _, rfl, _, rfl, _, _, rfl, rfl, sz_mulW hb hc, _, _, rfl, by have := parts_pos hp; have := parts_pos he; exact Int.ne_of_gt (Int.mul_pos ‹_› ‹_›), Nat.lt_trans (sz_mul hb hc) (by decide +kernel), fun p H4 s4 n4 e4 => ?_⟩
    exact q p H4 (s12.trans s4) e4
abbrev sTimes : Stmt := topS 22
theorem scTimes : FnScope ["one", "other", "top", "bottom", "other_top", "other_bottom"] ["one", "other"] (defScope sTimes) := ⟨rfl, rfl, rfl, by decide +kernel, rfl, by decide +kernel, by decide +kernel⟩
theorem ok_times {f : Addr} {fd : FuncData} (F : Fun K "times" "times" sTimes f fd) (Gp : Dx P w K mg base "parts_of" 3 ["value", "what"] (spParts K CN)) (Gl : Df P w K mg base "lowest" 1 ["top", "bottom"] spLow) (N : Ex P w K mg base "BadNumber" CN ["what", "number"]) :
    FnOk P w K mg base (L2.CX P w) 4 f fd ["one", "other"] (spTwo K CN (okLow gTimes)) := by
  refine F.okX scTimes (fun vs H Q E h => ?_) (fun cdv A outer s H vs Q E hr h => ?_)
  · obtain ⟨v, u, d, e, rfl, _⟩ := h
    rfl
  · obtain ⟨v, u, d, e, rfl, hd, he', q, r1, r2⟩ := h
    refine ⟨_, (pss_cons (ps_asg (pe_call Gp.ok hr rfl Gp.m Gp.kp Gp.b .nil (E := E) (passes_call (takes_of rfl rfl rfl rfl) (fun _ _ _ _ h => h)) (pa_cons (pv 0) (pa_cons pe_str pa_nil))) (pg_tup (by rfl) (pgs_cons (pg_name (i := 2) scTimes.nd rfl (Or.inl rfl)) (pgs_cons (pg_name (i := 3) scTimes.nd rfl (Or.inl rfl)) pgs_nil))))
      (pss_cons (ps_asg (pe_call Gp.ok hr rfl Gp.m Gp.kp Gp.b .nil (E := E) (passes_call (takes_of rfl rfl rfl rfl) (fun _ _ _ _ h => h)) (pa_cons (pv 1) (pa_cons pe_str pa_nil))) (pg_tup (by rfl) (pgs_cons (pg_name (i := 4) scTimes.nd rfl (Or.inl rfl)) (pgs_cons (pg_name (i := 5) scTimes.nd rfl (Or.inl rfl)) pgs_nil))))
      (pss_one (ps_ret (pe_call Gl.ok (hr.mono (by decide)) rfl Gl.m Gl.kp Gl.b .nil pass0 (pa_cons (pe_op op_mulW (pv 2) (pv 4)) (pa_cons (pe_op op_mulW (pv 3) (pv 5)) pa_nil))))))), ?_⟩
    refine ⟨_, rfl, v, .str "ratio", d, rfl, hd, fun t b hp p H1 s1 e1 => ?_, r1⟩
    have r2 := r2 (by rw [hp]; rfl)
    have q := fun x c he => q t b x c hp he
    refine ⟨p, _, rfl, SqT.of e1, rfl, _, _, rfl, _, _, rfl, rfl, ?_⟩
    refine ⟨_, rfl, u, .str "ratio", e, rfl, he'.mono s1, fun x c he p2 H2 s2 e2 => ?_, fun z => (r2 z).same s1⟩
    refine ⟨p2, _, rfl, SqT.of e2, rfl, _, _, rfl, _, _, rfl, rfl, ?_⟩
    obtain ⟨ht, hb, hx, hc, q⟩ := q x c he
    have s12 := s1.trans s2
    refine ⟨_, rfl, _, rfl, _, _, rfl, rfl, sz_mulW ht hx, _, rfl, _, rfl, _, _, rfl, rfl, sz_mulW hb hc, _, _, rfl, by have := parts_pos hp; have := parts_pos he; exact Int.ne_of_gt (Int.mul_pos ‹_› ‹_›), Nat.lt_trans (sz_mul hb hc) (by decide +kernel), fun p H4 s4 n4 e4 => ?_⟩
    exact q p H4 (s12.trans s4) e4
end
/-! ### the law's own ratios -/
def spGcd : Sp := fun vs H Q _ => ∃ a b : Int, vs = [.int a, .int b] ∧ a.natAbs < 2 ^ big ∧ b.natAbs < 2 ^ big ∧ Q (.int ((Nat.gcd a.natAbs b.natAbs : Nat) : Int)) H
def spQ : Sp := fun vs H Q _ => ∃ t b : Int, vs = [.int t, .int b] ∧ b ≠ 0 ∧ t.natAbs < 2 ^ big ∧ b.natAbs < 2 ^ big ∧ ∀ (p : Addr) (H' : Hp), Same H H' → H p = none → H' p = some (.tup [.int (low t b).1, .int (low t b).2]) → Q (.ref p) H'
section
variable {P : Program} {w : World} {K : PySem.W.Frag} {mg : Str → Option Value} {base : Heap} {CN : Addr}
abbrev sLGcd : Stmt := topS 36
abbrev sLQ : Stmt := topS 37
theorem scLGcd : FnScope ["_law_one", "_law_two", "_law_lap"] ["_law_one", "_law_two"] (defScope sLGcd) := ⟨rfl, rfl, rfl, by decide +kernel, rfl, by decide +kernel, by decide +kernel⟩
theorem ok_lgcd {f : Addr} {fd : FuncData} (F : Fun K "_law_gcd" "_law_gcd" sLGcd f fd) (T : Bk mg) : FnOk P w K mg base CX0 1 f fd ["_law_one", "_law_two"] spGcd := by
  refine F.ok scLGcd (fun vs H Q E h => ?_) (fun cdv A outer s H vs Q E hr h => ?_)
  · obtain ⟨a, b, rfl, _⟩ := h
    rfl
  · obtain ⟨a, b, rfl, ha, hb, q⟩ := h
    refine ⟨_, (pss_cons (ps_par (i := 0) (j := 1) (by rfl) scLGcd.nd rfl rfl (by decide) rfl rfl (pa_cons (pe_callB call_abs (by rfl) T.abs (by decide +kernel) (pa_cons (pv 0) pa_nil)) (pa_cons (pe_callB call_abs (by rfl) T.abs (by decide +kernel) (pa_cons (pv 1) pa_nil)) pa_nil)) (by rfl))
      (pss_cons (ps_for PassesOwn.never rfl (pi_range1 (by rfl) T.range (pa_cons pe_int pa_nil)) (pg_name (i := 2) scLGcd.nd rfl (Or.inl rfl))
        (pss_cons (ps_if (pt_cmpR op_eq (pv 1) pe_int (nomark _)) (pss_one ps_break) pss_nil)
        (pss_one (ps_par (i := 0) (j := 1) (by rfl) scLGcd.nd rfl rfl (by decide) rfl rfl (pa_cons (pv 1) (pa_cons (pe_op op_mod (pe_callTy call_int1 (by rfl) T.int (by decide +kernel) (pa_cons (pv 0) pa_nil)) (pv 1)) pa_nil)) (by rfl)))))
      (pss_one (ps_ret (pv 0))))), ?_⟩
    refine ⟨_, rfl, _, rfl, _, rfl, _, rfl, _, _, rfl, ?_⟩
    refine ⟨50000, rfl, by decide, by decide, for_range (lo := 0) (n := 50000) (fun i σ H2 => H2 = H ∧ ∃ (x y : Int) (v : Option V), σ = [some (.int x), some (.int y), v] ∧ Lap (Nat.gcd a.natAbs b.natAbs) (a.natAbs * b.natAbs) i x y) ⟨rfl, _, _, none, rfl, lap0 a b⟩ ?_ ?_⟩
    · rintro i σ H2 hi ⟨rfl, x, y, v, rfl, h⟩
      refine ⟨_, rfl, rfl, _, rfl, ?_⟩
      by_cases hy : y = 0
      · rw [decide_eq_true (by rw [hy])]
        refine iteT ?_
        refine ⟨_, rfl, ?_⟩
        have e := lap_end h hy
        rw [e]
        exact q
      · rw [decide_eq_false (fun z => hy (by have z2 := V.int.inj z; exact z2))]
        refine iteF ?_
        have y0 := h.b0
        refine ⟨_, rfl, _, rfl, .inl ⟨_, rfl, _, rfl, _, _, rfl, rfl, (by show 0 < y; omega), _, _, rfl, ?_⟩⟩
        exact ⟨rfl, _, _, _, rfl, lap_next h hy⟩
    · rintro σ H2 ⟨rfl, x, y, v, rfl, h⟩
      have hP : a.natAbs * b.natAbs < 2 ^ (50000 - 1) := by
        have z : a.natAbs * b.natAbs < 2 ^ (big + big) := by
          rw [Nat.pow_add]
          exact Nat.mul_lt_mul'' ha hb
        exact Nat.lt_trans z (Nat.pow_lt_pow_right (by decide) (by decide))
      have e := lap_end h (lap_over h (by decide) hP)
      refine ⟨_, rfl, ?_⟩
      rw [e]
      exact q
theorem scLQ : FnScope ["_law_top", "_law_bottom", "_law_by"] ["_law_top", "_law_bottom"] (defScope sLQ) := ⟨rfl, rfl, rfl, by decide +kernel, rfl, by decide +kernel, by decide +kernel⟩
theorem ok_lq {f : Addr} {fd : FuncData} (F : Fun K "_law_q" "_law_q" sLQ f fd) (G : Df P w K mg base "_law_gcd" 1 ["_law_one", "_law_two"] spGcd) : FnOk P w K mg base CX0 2 f fd ["_law_top", "_law_bottom"] spQ := by
  refine F.ok scLQ (fun vs H Q E h => ?_) (fun cdv A outer s H vs Q E hr h => ?_)
  · obtain ⟨t, b, rfl, _⟩ := h
    rfl
  · obtain ⟨t, b, rfl, hb, ht, hz, q⟩ := h
    refine ⟨_, (pss_cons (ps_set (i := 2) scLQ.nd rfl (Or.inl rfl) (pe_call G.ok hr rfl G.m G.kp G.b .nil pass0 (pa_cons (pv 0) (pa_cons (pv 1) pa_nil))))
      (pss_cons (ps_set (i := 2) scLQ.nd rfl (Or.inl rfl) (pe_ifExp (pt_cmpR op_lt (pv 1) pe_int (nomark _)) (pe_un un_neg (pv 2)) (pv 2)))
      (pss_one (ps_ret (pe_tup (pa_cons (pe_op op_fdivZ (pv 0) (pv 2)) (pa_cons (pe_op op_fdivZ (pv 1) (pv 2)) pa_nil))))))), ?_⟩
    have tail : ∀ s : Int, s = sg t b → (∀ p, H p = none → Q (.ref p) (upd H p (.tup [.int (t.fdiv s), .int (b.fdiv s)]))) := fun s e p np => by
      rw [e]
      exact q p _ (same_upd np) np upd_same
    refine ⟨_, rfl, _, rfl, t, b, rfl, ht, hz, _, rfl, _, _, rfl, rfl, _, rfl, ?_⟩
    refine ite2 (fun hlt => ?_) (fun hlt => ?_)
    · have h2 : b < 0 := of_decide_eq_true hlt
      have e : -((Nat.gcd t.natAbs b.natAbs : Nat) : Int) = sg t b := by unfold sg; rw [if_pos h2]
      have c : ∀ x : Int, CDivZ x (-((Nat.gcd t.natAbs b.natAbs : Nat) : Int)) := fun x => by rw [e]; exact sg_cdiv hb hz
      exact ⟨_, rfl, _, rfl, _, rfl, _, rfl, _, _, rfl, rfl, c _, _, rfl, _, rfl, _, _, rfl, rfl, c _, (by show 2 ≤ sizeLine; decide), tail _ e⟩
    · have h2 : ¬ b < 0 := fun z => hlt (decide_eq_true z)
      have e : ((Nat.gcd t.natAbs b.natAbs : Nat) : Int) = sg t b := by unfold sg; rw [if_neg h2]
      have c : ∀ x : Int, CDivZ x ((Nat.gcd t.natAbs b.natAbs : Nat) : Int) := fun x => by rw [e]; exact sg_cdiv hb hz
      exact ⟨_, rfl, _, rfl, _, rfl, _, _, rfl, rfl, c _, _, rfl, _, rfl, _, _, rfl, rfl, c _, (by show 2 ≤ sizeLine; decide), tail _ e⟩
end
end Vf

set_option maxRecDepth 100000
set_option maxHeartbeats 8000000
namespace Vf
open PySem PySem.Spec PyProof.Rows L2
/-! ### the law's odd values -/
def spAny (K : PySem.W.Frag) : Sp := fun vs H Q _ => ∃ (p lc : Addr) (B : Int), vs = [.ref p] ∧ Pen H p lc B ∧ B ≤ 100000000 ∧
  ∀ (v : V) (d : PyData) (H' : Hp), Pen H' p lc (B + 1) → Kp p H H' → Dt K (nw H H') v d → partsD d = none → Gd d → (PyData.str d.shown).canLay0 = true → Q v H'
section
variable {P : Program} {w : World} {K : PySem.W.Frag} {mg : Str → Option Value} {base : Heap}
abbrev sAny : Stmt := topS 53
theorem scAny : FnScope ["_law_pen_here", "_law_some"] ["_law_pen_here"] (defScope sAny) := ⟨rfl, rfl, rfl, by decide +kernel, rfl, by decide +kernel, by decide +kernel⟩
theorem ok_any {f : Addr} {fd : FuncData} (F : Fun K "_law_any" "_law_any" sAny f fd) (G : Df P w K mg base "_law_pick" 2 ["_law_pen_here", "_law_some"] spPick) : FnOk P w K mg base CX0 3 f fd ["_law_pen_here"] (spAny K) := by
  refine F.ok scAny (fun vs H Q E h => ?_) (fun cdv A outer s H0 vs Q E hr h => ?_)
  · obtain ⟨p, lc, B, rfl, _⟩ := h
    rfl
  · obtain ⟨p, lc, B, rfl, hP0, hB, q⟩ := h
    have z0 : Same H0 H0 := Same.refl _
    refine ⟨_, (pss_cons (ps_set (i := 1) scAny.nd rfl (Or.inl rfl) (pe_lst (pa_cons pe_non (pa_cons pe_bl (pa_cons pe_str (pa_cons (pe_tup (pa_cons pe_int (pa_cons pe_int pa_nil))) (pa_cons (pe_tup (pa_cons pe_int (pa_cons (pe_un un_neg pe_int) pa_nil))) (pa_cons (pe_tup (pa_cons pe_int (pa_cons pe_bl pa_nil))) (pa_cons (pe_lst (pa_cons pe_int pa_nil)) (pa_cons (pe_tup (pa_cons pe_int (pa_cons pe_int (pa_cons pe_int pa_nil)))) (pa_cons (pe_disp (pps_cons pe_str pe_int pps_nil) (by rfl) (by rfl) (fun z => by cases z) (by decide)) (pa_cons (pe_tup (pa_cons pe_str (pa_cons pe_int pa_nil))) (pa_cons (pe_tup (pa_cons pe_non (pa_cons pe_int pa_nil))) (pa_cons (pe_tup (pa_cons pe_bl (pa_cons pe_int pa_nil))) pa_nil))))))))))))))
      (pss_one (ps_ret (pe_call G.ok hr rfl G.m G.kp G.b .nil pass0 (pa_cons (pv 0) (pa_cons (pe_op op_cat (pv 1) (pe_lst (pa_cons (pe_lst (pa_cons pe_int (pa_cons pe_bl pa_nil))) (pa_cons (pe_tup (pa_cons (pe_tup (pa_cons pe_int (pa_cons pe_int pa_nil))) (pa_cons pe_int pa_nil))) (pa_cons (pe_tup pa_nil) pa_nil))))) pa_nil)))))), ?_⟩
    refine ⟨(by show 2 ≤ sizeLine; decide), fun a1 n1 => ?_⟩
    have e1 : upd H0 a1 (HO.tup [V.int 1, V.int 0]) a1 = some (HO.tup [V.int 1, V.int 0]) := upd_same
    have s1 : Same H0 (upd H0 a1 (HO.tup [V.int 1, V.int 0])) := same_upd n1
    have np1 : a1 ≠ p := by
      obtain ⟨o, e⟩ := hP0.there
      exact (ne_of_none e n1).symm
    generalize upd H0 a1 (HO.tup [V.int 1, V.int 0]) = H1 at e1 s1 ⊢
    have hP1 := hP0.same s1
    have nz1 : H0 a1 = none := z0.free n1
    have z1 : Same H0 H1 := z0.trans s1
    refine ⟨_, rfl, (by show 2 ≤ sizeLine; decide), fun a2 n2 => ?_⟩
    have e2 : upd H1 a2 (HO.tup [V.int 1, V.int (-2)]) a2 = some (HO.tup [V.int 1, V.int (-2)]) := upd_same
    have s2 : Same H1 (upd H1 a2 (HO.tup [V.int 1, V.int (-2)])) := same_upd n2
    have np2 : a2 ≠ p := by
      obtain ⟨o, e⟩ := hP1.there
      exact (ne_of_none e n2).symm
    generalize upd H1 a2 (HO.tup [V.int 1, V.int (-2)]) = H2 at e2 s2 ⊢
    have hP2 := hP1.same s2
    have nz2 : H0 a2 = none := z1.free n2
    have z2 : Same H0 H2 := z1.trans s2
    refine ⟨(by show 2 ≤ sizeLine; decide), fun a3 n3 => ?_⟩
    have e3 : upd H2 a3 (HO.tup [V.int 1, V.bl true]) a3 = some (HO.tup [V.int 1, V.bl true]) := upd_same
    have s3 : Same H2 (upd H2 a3 (HO.tup [V.int 1, V.bl true])) := same_upd n3
    have np3 : a3 ≠ p := by
      obtain ⟨o, e⟩ := hP2.there
      exact (ne_of_none e n3).symm
    generalize upd H2 a3 (HO.tup [V.int 1, V.bl true]) = H3 at e3 s3 ⊢
    have hP3 := hP2.same s3
    have nz3 : H0 a3 = none := z2.free n3
    have z3 : Same H0 H3 := z2.trans s3
    refine ⟨(by show 1 ≤ sizeLine; decide), fun a4 n4 => ?_⟩
    have e4 : upd H3 a4 (HO.lst [V.int 1]) a4 = some (HO.lst [V.int 1]) := upd_same
    have s4 : Same H3 (upd H3 a4 (HO.lst [V.int 1])) := same_upd n4
    have np4 : a4 ≠ p := by
      obtain ⟨o, e⟩ := hP3.there
      exact (ne_of_none e n4).symm
    generalize upd H3 a4 (HO.lst [V.int 1]) = H4 at e4 s4 ⊢
    have hP4 := hP3.same s4
    have nz4 : H0 a4 = none := z3.free n4
    have z4 : Same H0 H4 := z3.trans s4
    refine ⟨(by show 3 ≤ sizeLine; decide), fun a5 n5 => ?_⟩
    have e5 : upd H4 a5 (HO.tup [V.int 1, V.int 2, V.int 3]) a5 = some (HO.tup [V.int 1, V.int 2, V.int 3]) := upd_same
    have s5 : Same H4 (upd H4 a5 (HO.tup [V.int 1, V.int 2, V.int 3])) := same_upd n5
    have np5 : a5 ≠ p := by
      obtain ⟨o, e⟩ := hP4.there
      exact (ne_of_none e n5).symm
    generalize upd H4 a5 (HO.tup [V.int 1, V.int 2, V.int 3]) = H5 at e5 s5 ⊢
    have hP5 := hP4.same s5
    have nz5 : H0 a5 = none := z4.free n5
    have z5 : Same H0 H5 := z4.trans s5
    refine fun a6 n6 => ⟨upd_same, [(.inr "a", .int 1)], rfl, (by show 1 ≤ 15; decide), ?_⟩
    rw [upd_upd]
    have em6 : mergeK [] [((.inr "a" : Key), V.int 1)] = [(.inr "a", .int 1)] := by kernel_rfl
    rw [em6]
    have e6 : upd H5 a6 (HO.dK [(.inr "a", .int 1)]) a6 = some (HO.dK [(.inr "a", .int 1)]) := upd_same
    have s6 : Same H5 (upd H5 a6 (HO.dK [(.inr "a", .int 1)])) := same_upd n6
    have np6 : a6 ≠ p := by
      obtain ⟨o, e⟩ := hP5.there
      exact (ne_of_none e n6).symm
    generalize upd H5 a6 (HO.dK [(.inr "a", .int 1)]) = H6 at e6 s6 ⊢
    have hP6 := hP5.same s6
    have nz6 : H0 a6 = none := z5.free n6
    have z6 : Same H0 H6 := z5.trans s6
    refine ⟨(by show 2 ≤ sizeLine; decide), fun a7 n7 => ?_⟩
    have e7 : upd H6 a7 (HO.tup [V.str "1", V.int 2]) a7 = some (HO.tup [V.str "1", V.int 2]) := upd_same
    have s7 : Same H6 (upd H6 a7 (HO.tup [V.str "1", V.int 2])) := same_upd n7
    have np7 : a7 ≠ p := by
      obtain ⟨o, e⟩ := hP6.there
      exact (ne_of_none e n7).symm
    generalize upd H6 a7 (HO.tup [V.str "1", V.int 2]) = H7 at e7 s7 ⊢
    have hP7 := hP6.same s7
    have nz7 : H0 a7 = none := z6.free n7
    have z7 : Same H0 H7 := z6.trans s7
    refine ⟨(by show 2 ≤ sizeLine; decide), fun a8 n8 => ?_⟩
    have e8 : upd H7 a8 (HO.tup [V.non, V.int 1]) a8 = some (HO.tup [V.non, V.int 1]) := upd_same
    have s8 : Same H7 (upd H7 a8 (HO.tup [V.non, V.int 1])) := same_upd n8
    have np8 : a8 ≠ p := by
      obtain ⟨o, e⟩ := hP7.there
      exact (ne_of_none e n8).symm
    generalize upd H7 a8 (HO.tup [V.non, V.int 1]) = H8 at e8 s8 ⊢
    have hP8 := hP7.same s8
    have nz8 : H0 a8 = none := z7.free n8
    have z8 : Same H0 H8 := z7.trans s8
    refine ⟨(by show 2 ≤ sizeLine; decide), fun a9 n9 => ?_⟩
    have e9 : upd H8 a9 (HO.tup [V.bl true, V.int 2]) a9 = some (HO.tup [V.bl true, V.int 2]) := upd_same
    have s9 : Same H8 (upd H8 a9 (HO.tup [V.bl true, V.int 2])) := same_upd n9
    have np9 : a9 ≠ p := by
      obtain ⟨o, e⟩ := hP8.there
      exact (ne_of_none e n9).symm
    generalize upd H8 a9 (HO.tup [V.bl true, V.int 2]) = H9 at e9 s9 ⊢
    have hP9 := hP8.same s9
    have nz9 : H0 a9 = none := z8.free n9
    have z9 : Same H0 H9 := z8.trans s9
    refine ⟨(by show 12 ≤ sizeLine; decide), fun a10 n10 => ?_⟩
    have e10 : upd H9 a10 (HO.lst [V.non, V.bl true, V.str "1", V.ref a1, V.ref a2, V.ref a3, V.ref a4, V.ref a5, V.ref a6, V.ref a7, V.ref a8, V.ref a9]) a10 = some (HO.lst [V.non, V.bl true, V.str "1", V.ref a1, V.ref a2, V.ref a3, V.ref a4, V.ref a5, V.ref a6, V.ref a7, V.ref a8, V.ref a9]) := upd_same
    have s10 : Same H9 (upd H9 a10 (HO.lst [V.non, V.bl true, V.str "1", V.ref a1, V.ref a2, V.ref a3, V.ref a4, V.ref a5, V.ref a6, V.ref a7, V.ref a8, V.ref a9])) := same_upd n10
    have np10 : a10 ≠ p := by
      obtain ⟨o, e⟩ := hP9.there
      exact (ne_of_none e n10).symm
    generalize upd H9 a10 (HO.lst [V.non, V.bl true, V.str "1", V.ref a1, V.ref a2, V.ref a3, V.ref a4, V.ref a5, V.ref a6, V.ref a7, V.ref a8, V.ref a9]) = H10 at e10 s10 ⊢
    have hP10 := hP9.same s10
    have nz10 : H0 a10 = none := z9.free n10
    have z10 : Same H0 H10 := z9.trans s10
    refine ⟨_, rfl, _, rfl, (by show 2 ≤ sizeLine; decide), fun a11 n11 => ?_⟩
    have e11 : upd H10 a11 (HO.lst [V.int 2, V.bl false]) a11 = some (HO.lst [V.int 2, V.bl false]) := upd_same
    have s11 : Same H10 (upd H10 a11 (HO.lst [V.int 2, V.bl false])) := same_upd n11
    have np11 : a11 ≠ p := by
      obtain ⟨o, e⟩ := hP10.there
      exact (ne_of_none e n11).symm
    generalize upd H10 a11 (HO.lst [V.int 2, V.bl false]) = H11 at e11 s11 ⊢
    have hP11 := hP10.same s11
    have nz11 : H0 a11 = none := z10.free n11
    have z11 : Same H0 H11 := z10.trans s11
    refine ⟨(by show 2 ≤ sizeLine; decide), fun a12 n12 => ?_⟩
    have e12 : upd H11 a12 (HO.tup [V.int 1, V.int 2]) a12 = some (HO.tup [V.int 1, V.int 2]) := upd_same
    have s12 : Same H11 (upd H11 a12 (HO.tup [V.int 1, V.int 2])) := same_upd n12
    have np12 : a12 ≠ p := by
      obtain ⟨o, e⟩ := hP11.there
      exact (ne_of_none e n12).symm
    generalize upd H11 a12 (HO.tup [V.int 1, V.int 2]) = H12 at e12 s12 ⊢
    have hP12 := hP11.same s12
    have nz12 : H0 a12 = none := z11.free n12
    have z12 : Same H0 H12 := z11.trans s12
    refine ⟨(by show 2 ≤ sizeLine; decide), fun a13 n13 => ?_⟩
    have e13 : upd H12 a13 (HO.tup [V.ref a12, V.int 3]) a13 = some (HO.tup [V.ref a12, V.int 3]) := upd_same
    have s13 : Same H12 (upd H12 a13 (HO.tup [V.ref a12, V.int 3])) := same_upd n13
    have np13 : a13 ≠ p := by
      obtain ⟨o, e⟩ := hP12.there
      exact (ne_of_none e n13).symm
    generalize upd H12 a13 (HO.tup [V.ref a12, V.int 3]) = H13 at e13 s13 ⊢
    have hP13 := hP12.same s13
    have nz13 : H0 a13 = none := z12.free n13
    have z13 : Same H0 H13 := z12.trans s13
    refine ⟨(by show 0 ≤ sizeLine; decide), fun a14 n14 => ?_⟩
    have e14 : upd H13 a14 (HO.tup []) a14 = some (HO.tup []) := upd_same
    have s14 : Same H13 (upd H13 a14 (HO.tup [])) := same_upd n14
    have np14 : a14 ≠ p := by
      obtain ⟨o, e⟩ := hP13.there
      exact (ne_of_none e n14).symm
    generalize upd H13 a14 (HO.tup []) = H14 at e14 s14 ⊢
    have hP14 := hP13.same s14
    have nz14 : H0 a14 = none := z13.free n14
    have z14 : Same H0 H14 := z13.trans s14
    refine ⟨(by show 3 ≤ sizeLine; decide), fun a15 n15 => ?_⟩
    have e15 : upd H14 a15 (HO.lst [V.ref a11, V.ref a13, V.ref a14]) a15 = some (HO.lst [V.ref a11, V.ref a13, V.ref a14]) := upd_same
    have s15 : Same H14 (upd H14 a15 (HO.lst [V.ref a11, V.ref a13, V.ref a14])) := same_upd n15
    have np15 : a15 ≠ p := by
      obtain ⟨o, e⟩ := hP14.there
      exact (ne_of_none e n15).symm
    generalize upd H14 a15 (HO.lst [V.ref a11, V.ref a13, V.ref a14]) = H15 at e15 s15 ⊢
    have hP15 := hP14.same s15
    have nz15 : H0 a15 = none := z14.free n15
    have z15 : Same H0 H15 := z14.trans s15
    refine ⟨_, _, _, _, rfl, rfl, (s15 _ _ (s14 _ _ (s13 _ _ (s12 _ _ (s11 _ _ e10))))), e15, (by show 12 + 3 ≤ sizeLine; decide), fun a16 n16 => ?_⟩
    have e16 : upd H15 a16 (HO.lst ([V.non, V.bl true, V.str "1", V.ref a1, V.ref a2, V.ref a3, V.ref a4, V.ref a5, V.ref a6, V.ref a7, V.ref a8, V.ref a9] ++ [V.ref a11, V.ref a13, V.ref a14])) a16 = some (HO.lst [V.non, V.bl true, V.str "1", V.ref a1, V.ref a2, V.ref a3, V.ref a4, V.ref a5, V.ref a6, V.ref a7, V.ref a8, V.ref a9, V.ref a11, V.ref a13, V.ref a14]) := upd_same
    have s16 : Same H15 (upd H15 a16 (HO.lst ([V.non, V.bl true, V.str "1", V.ref a1, V.ref a2, V.ref a3, V.ref a4, V.ref a5, V.ref a6, V.ref a7, V.ref a8, V.ref a9] ++ [V.ref a11, V.ref a13, V.ref a14]))) := same_upd n16
    have np16 : a16 ≠ p := by
      obtain ⟨o, e⟩ := hP15.there
      exact (ne_of_none e n16).symm
    generalize upd H15 a16 (HO.lst ([V.non, V.bl true, V.str "1", V.ref a1, V.ref a2, V.ref a3, V.ref a4, V.ref a5, V.ref a6, V.ref a7, V.ref a8, V.ref a9] ++ [V.ref a11, V.ref a13, V.ref a14])) = H16 at e16 s16 ⊢
    have hP16 := hP15.same s16
    have t16 : Same H16 H16 := Same.refl _
    have t15 : Same H15 H16 := s16.trans t16
    have t14 : Same H14 H16 := s15.trans t15
    have t13 : Same H13 H16 := s14.trans t14
    have t12 : Same H12 H16 := s13.trans t13
    have t11 : Same H11 H16 := s12.trans t12
    have t10 : Same H10 H16 := s11.trans t11
    have t9 : Same H9 H16 := s10.trans t10
    have t8 : Same H8 H16 := s9.trans t9
    have t7 : Same H7 H16 := s8.trans t8
    have t6 : Same H6 H16 := s7.trans t7
    have t5 : Same H5 H16 := s6.trans t6
    have t4 : Same H4 H16 := s5.trans t5
    have t3 : Same H3 H16 := s4.trans t4
    have t2 : Same H2 H16 := s3.trans t3
    have t1 : Same H1 H16 := s2.trans t2
    have t0 : Same H0 H16 := s1.trans t1
    refine ⟨p, lc, a16, B, _, rfl, hP16, by omega, e16, np16, (by show 0 < 15; decide), (by show 15 < 1000000; decide), fun x H' hx hP' kp => ?_⟩
    have kk : Kp p H0 H' := (Kp.of t0).trans kp
    have at_ : ∀ {b : Addr} {o : HO}, b ≠ p → H0 b = none → H16 b = some o → nw H0 H' b = some o := fun h1 h2 e => nw_at h2 (kp _ _ h1 e)
    simp only [List.mem_cons, List.not_mem_nil, or_false] at hx
    rcases hx with h | h | h | h | h | h | h | h | h | h | h | h | h | h | h
    · rw [h]
      exact q _ (PyData.none) H' hP' kk (.non) (by rfl) ⟨by decide +kernel, by decide +kernel, by decide +kernel⟩ (by decide +kernel)
    · rw [h]
      exact q _ (PyData.bool true) H' hP' kk (.bl _) (by rfl) ⟨by decide +kernel, by decide +kernel, by decide +kernel⟩ (by decide +kernel)
    · rw [h]
      exact q _ (PyData.str "1") H' hP' kk (.str _) (by rfl) ⟨by decide +kernel, by decide +kernel, by decide +kernel⟩ (by decide +kernel)
    · rw [h]
      exact q _ (PyData.tuple [PyData.int 1, PyData.int 0]) H' hP' kk (.tup (SqT.of (at_ np1 nz1 (t1 _ _ e1))) (.cons (.int _) (.cons (.int _) .nil))) (by rfl) ⟨by decide +kernel, by decide +kernel, by decide +kernel⟩ (by decide +kernel)
    · rw [h]
      exact q _ (PyData.tuple [PyData.int 1, PyData.int (-2)]) H' hP' kk (.tup (SqT.of (at_ np2 nz2 (t2 _ _ e2))) (.cons (.int _) (.cons (.int _) .nil))) (by rfl) ⟨by decide +kernel, by decide +kernel, by decide +kernel⟩ (by decide +kernel)
    · rw [h]
      exact q _ (PyData.tuple [PyData.int 1, PyData.bool true]) H' hP' kk (.tup (SqT.of (at_ np3 nz3 (t3 _ _ e3))) (.cons (.int _) (.cons (.bl _) .nil))) (by rfl) ⟨by decide +kernel, by decide +kernel, by decide +kernel⟩ (by decide +kernel)
    · rw [h]
      exact q _ (PyData.list [PyData.int 1]) H' hP' kk (.lst (SqL.of (at_ np4 nz4 (t4 _ _ e4))) (.cons (.int _) .nil)) (by rfl) ⟨by decide +kernel, by decide +kernel, by decide +kernel⟩ (by decide +kernel)
    · rw [h]
      exact q _ (PyData.tuple [PyData.int 1, PyData.int 2, PyData.int 3]) H' hP' kk (.tup (SqT.of (at_ np5 nz5 (t5 _ _ e5))) (.cons (.int _) (.cons (.int _) (.cons (.int _) .nil)))) (by rfl) ⟨by decide +kernel, by decide +kernel, by decide +kernel⟩ (by decide +kernel)
    · rw [h]
      exact q _ (PyData.dict [(.str "a", .int 1)]) H' hP' kk (.dct (ds := [.int 1]) (at_ np6 nz6 (t6 _ _ e6)) (.cons (.int _) .nil)) (by rfl) ⟨by decide +kernel, by decide +kernel, by decide +kernel⟩ (by decide +kernel)
    · rw [h]
      exact q _ (PyData.tuple [PyData.str "1", PyData.int 2]) H' hP' kk (.tup (SqT.of (at_ np7 nz7 (t7 _ _ e7))) (.cons (.str _) (.cons (.int _) .nil))) (by rfl) ⟨by decide +kernel, by decide +kernel, by decide +kernel⟩ (by decide +kernel)
    · rw [h]
      exact q _ (PyData.tuple [PyData.none, PyData.int 1]) H' hP' kk (.tup (SqT.of (at_ np8 nz8 (t8 _ _ e8))) (.cons (.non) (.cons (.int _) .nil))) (by rfl) ⟨by decide +kernel, by decide +kernel, by decide +kernel⟩ (by decide +kernel)
    · rw [h]
      exact q _ (PyData.tuple [PyData.bool true, PyData.int 2]) H' hP' kk (.tup (SqT.of (at_ np9 nz9 (t9 _ _ e9))) (.cons (.bl _) (.cons (.int _) .nil))) (by rfl) ⟨by decide +kernel, by decide +kernel, by decide +kernel⟩ (by decide +kernel)
    · rw [h]
      exact q _ (PyData.list [PyData.int 2, PyData.bool false]) H' hP' kk (.lst (SqL.of (at_ np11 nz11 (t11 _ _ e11))) (.cons (.int _) (.cons (.bl _) .nil))) (by rfl) ⟨by decide +kernel, by decide +kernel, by decide +kernel⟩ (by decide +kernel)
    · rw [h]
      exact q _ (PyData.tuple [.tuple [.int 1, .int 2], .int 3]) H' hP' kk (.tup (SqT.of (at_ np13 nz13 (t13 _ _ e13))) (.cons (.tup (SqT.of (at_ np12 nz12 (t12 _ _ e12))) (.cons (.int _) (.cons (.int _) .nil))) (.cons (.int _) .nil))) (by rfl) ⟨by decide +kernel, by decide +kernel, by decide +kernel⟩ (by decide +kernel)
    · rw [h]
      exact q _ (PyData.tuple []) H' hP' kk (.tup (SqT.of (at_ np14 nz14 (t14 _ _ e14))) .nil) (by rfl) ⟨by decide +kernel, by decide +kernel, by decide +kernel⟩ (by decide +kernel)
end
end Vf

set_option maxRecDepth 100000
set_option maxHeartbeats 8000000
namespace Vf
open PySem PySem.Spec PyProof.Rows L2
/-! ### the law's passed ratios, some ratios -/
/-- below 2 ^ 80 in size -/
def S80 (z : Int) : Prop := z.natAbs < 2 ^ 80
theorem s80_k {t k : Int} (h : S80 t) (h0 : 0 < k) (h3 : k ≤ 3) : (t * k).natAbs < 2 ^ 90 := by
  unfold S80 at h
  rw [Int.natAbs_mul]
  have hk : k.natAbs ≤ 3 := by omega
  have : t.natAbs * k.natAbs ≤ t.natAbs * 3 := Nat.mul_le_mul_left _ hk
  have e : (2 : Nat) ^ 90 = 2 ^ 80 * 1024 := by decide +kernel
  rw [e]
  omega
theorem gd_z {z : Int} (h : z.natAbs < 2 ^ 90) : Gd (.int z) := gd_int (Nat.lt_trans h (Nat.pow_lt_pow_right (by decide) (by decide)))
theorem gd_pair {a b : Int} (ha : a.natAbs < 2 ^ 90) (hb : b.natAbs < 2 ^ 90) : Gd (.list [.int a, .int b]) ∧ Gd (.tuple [.int a, .int b]) := by
  have ga := gd_z ha
  have gb := gd_z hb
  have all : ∀ d ∈ [PyData.int a, PyData.int b], d = .int a ∨ d = .int b := fun d hd => by simpa using hd
  have big : ∀ {z : Int}, z.natAbs < 2 ^ 90 → (PyData.int z).shown.length ≤ 2000 := fun {z} h => by
    simp only [PyData.shown]
    exact Nat.le_trans (int_text_len_1921 (log_small (Nat.lt_trans h (Nat.pow_lt_pow_right (by decide) (by decide))))) (by decide)
  refine gd_seq (ds := [.int a, .int b]) (n := 2) (m := 2000) (Nat.le_refl 2) (fun d hd => ?_) (fun d hd => ?_) (fun d hd => ?_) (by decide)
  · rcases all d hd with h | h <;> rw [h]
    · exact ga.sh
    · exact gb.sh
  · rcases all d hd with h | h <;> rw [h] <;> simp [PyData.depth]
  · rcases all d hd with h | h <;> rw [h]
    · exact big ha
    · exact big hb
def spPassed (K : PySem.W.Frag) : Sp := fun vs H Q _ => ∃ (p lc r : Addr) (B t b : Int), vs = [.ref p, .ref r] ∧ Pen H p lc B ∧ B ≤ 100000000 ∧ H r = some (.tup [.int t, .int b]) ∧ 0 < b ∧ S80 t ∧ S80 b ∧
  ∀ (v : V) (d : PyData) (k : Int) (H' : Hp), Pen H' p lc (B + 3) → Kp p H H' → Dt K (nw H H') v d → partsD d = some (t * k, b * k) → 0 < k → k ≤ 3 → Gd d → Q v H'
section
variable {P : Program} {w : World} {K : PySem.W.Frag} {mg : Str → Option Value} {base : Heap}
abbrev sPassed : Stmt := topS 40
theorem scPassed : FnScope ["_law_pen_here", "_law_ratio_here", "_law_by"] ["_law_pen_here", "_law_ratio_here"] (defScope sPassed) := ⟨rfl, rfl, rfl, by decide +kernel, rfl, by decide +kernel, by decide +kernel⟩
theorem ok_passed {f : Addr} {fd : FuncData} (F : Fun K "_law_passed" "_law_passed" sPassed f fd) (Gd_ : Df P w K mg base "_law_draw" 1 ["_law_pen_here", "_law_many"] spDraw) (Gp : Df P w K mg base "_law_pick" 2 ["_law_pen_here", "_law_some"] spPick) : FnOk P w K mg base CX0 3 f fd ["_law_pen_here", "_law_ratio_here"] (spPassed K) := by
  refine F.ok scPassed (fun vs H Q E h => ?_) (fun cdv A outer s H vs Q E hr h => ?_)
  · obtain ⟨p, lc, r, B, t, b, rfl, _⟩ := h
    rfl
  · obtain ⟨p, lc, r, B, t, b, rfl, hP, hB, hr0, hb, ht, hbz, q⟩ := h
    have rp : r ≠ p := by
      obtain ⟨_, _, _, _, _, g1, _⟩ := hP
      exact ne_of hr0 g1.1 (by intro z; cases z)
    refine ⟨_, (C8.pss_cut (ps_if (PW.pt (pw_and (pt_cmpR op_eq (pe_ix ix_tup (pv 1) pe_int (fun _ _ => rfl)) pe_int (nomark _)) (pw_and1 (pt_cmpR op_eq (pe_call Gd_.ok (hr.mono (by decide)) rfl Gd_.m Gd_.kp Gd_.b .nil pass0 (pa_cons (pv 0) (pa_cons pe_int pa_nil))) pe_int (nomark _)))))
        (pss_one (ps_ret (pe_ix ix_tup (pv 1) pe_int (fun _ _ => rfl))))
        pss_nil)
      (pss_cons (ps_set (i := 2) scPassed.nd rfl (Or.inl rfl) (pe_call Gp.ok hr rfl Gp.m Gp.kp Gp.b .nil pass0 (pa_cons (pv 0) (pa_cons (pe_lst (pa_cons pe_int (pa_cons pe_int (pa_cons pe_int (pa_cons pe_int pa_nil))))) pa_nil))))
      (pss_one (ps_ret (pe_call Gp.ok hr rfl Gp.m Gp.kp Gp.b .nil pass0 (pa_cons (pv 0) (pa_cons (pe_lst (pa_cons (pe_tup (pa_cons (pe_op op_mul (pe_ix ix_tup (pv 1) pe_int (fun _ _ => rfl)) (pv 2)) (pa_cons (pe_op op_mul (pe_ix ix_tup (pv 1) pe_int (fun _ _ => rfl)) (pv 2)) pa_nil))) (pa_cons (pe_lst (pa_cons (pe_op op_mul (pe_ix ix_tup (pv 1) pe_int (fun _ _ => rfl)) (pv 2)) (pa_cons (pe_op op_mul (pe_ix ix_tup (pv 1) pe_int (fun _ _ => rfl)) (pv 2)) pa_nil))) pa_nil))) pa_nil))))))), ?_⟩
    refine ⟨fun σ H2 => ∃ B1, σ = [some (.ref p), some (.ref r), none] ∧ Pen H2 p lc B1 ∧ B1 ≤ B + 1 ∧ Kp p H H2, ?_, ?_⟩
    · refine ⟨_, rfl, r, _, _, .int b, rfl, rfl, SqT.of hr0, at_of (j := 1) rfl rfl, rfl, _, rfl, ?_⟩
      by_cases hb1 : b = 1
      · rw [decide_eq_true (by rw [hb1])]
        refine iteT ?_
        refine ⟨_, rfl, p, lc, B, _, rfl, hP, by omega, by decide, by decide, fun z H1 z0 z1 hP1 k1 => ⟨rfl, _, rfl, ?_⟩⟩
        have hr1 := k1 _ _ rp hr0
        by_cases hz : z = 0
        · rw [decide_eq_true (by rw [hz])]
          refine iteT ?_
          refine ⟨_, rfl, r, _, _, .int t, rfl, rfl, SqT.of hr1, at_of (j := 0) rfl rfl, ?_⟩
          exact q (.int t) (.int t) 1 H1 (hP1.more (by omega)) k1 (.int t) (by show some (t, 1) = some (t * 1, b * 1); rw [hb1, Int.mul_one, Int.mul_one]) (by decide) (by decide) (gd_z (Nat.lt_trans ht (by decide +kernel)))
        · rw [decide_eq_false (fun h => hz (by have h2 := V.int.inj h; exact h2))]
          refine iteF ?_
          exact ⟨B + 1, rfl, hP1, Int.le_refl _, k1⟩
      · rw [decide_eq_false (fun h => hb1 (by have h2 := V.int.inj h; exact h2))]
        refine iteF ?_
        exact ⟨B, rfl, hP, by omega, Kp.refl⟩
    · rintro σ H1 ⟨B1, rfl, hP1, hB1, k1⟩
      have hr1 := k1 _ _ rp hr0
      refine ⟨_, rfl, (by show 4 ≤ sizeLine; decide), fun l nl => ?_⟩
      have el : upd H1 l (HO.lst [V.int 1, V.int 1, V.int 2, V.int 3]) l = some (HO.lst [V.int 1, V.int 1, V.int 2, V.int 3]) := upd_same
      have s1 : Same H1 (upd H1 l (HO.lst [V.int 1, V.int 1, V.int 2, V.int 3])) := same_upd nl
      have lp : l ≠ p := by
        obtain ⟨o, e⟩ := hP1.there
        exact (ne_of_none e nl).symm
      generalize upd H1 l (HO.lst [V.int 1, V.int 1, V.int 2, V.int 3]) = H2 at el s1 ⊢
      refine ⟨p, lc, l, B1, _, rfl, hP1.same s1, by omega, el, lp, (by show 0 < 4; decide), (by show 4 < 1000000; decide), fun x H3 hx hP3 k3 => ?_⟩
      obtain ⟨k, rfl, hk0, hk3⟩ : ∃ k : Int, x = .int k ∧ 0 < k ∧ k ≤ 3 := by
        simp only [List.mem_cons, List.not_mem_nil, or_false] at hx
        rcases hx with h | h | h | h
        · exact ⟨1, h, by decide, by decide⟩
        · exact ⟨1, h, by decide, by decide⟩
        · exact ⟨2, h, by decide, by decide⟩
        · exact ⟨3, h, by decide, by decide⟩
      have k13 : Kp p H H3 := (k1.trans (Kp.of s1)).trans k3
      have hr3 := k13 _ _ rp hr0
      have mk : ∀ z : Int, CMul z k := fun z => .inr ⟨by omega, by omega⟩
      refine ⟨_, rfl, _, rfl, r, _, _, .int t, rfl, rfl, SqT.of hr3, at_of (j := 0) rfl rfl, _, rfl, _, _, rfl, rfl, mk _, _, rfl, r, _, _, .int b, rfl, rfl, SqT.of hr3, at_of (j := 1) rfl rfl, _, rfl, _, _, rfl, rfl, mk _, (by show 2 ≤ sizeLine; decide), fun t1 n1 => ?_⟩
      have e1 : upd H3 t1 (HO.tup [V.int (t * k), V.int (b * k)]) t1 = some (HO.tup [V.int (t * k), V.int (b * k)]) := upd_same
      have s4 : Same H3 (upd H3 t1 (HO.tup [V.int (t * k), V.int (b * k)])) := same_upd n1
      have tp : t1 ≠ p := by
        obtain ⟨o, e⟩ := hP3.there
        exact (ne_of_none e n1).symm
      generalize upd H3 t1 (HO.tup [V.int (t * k), V.int (b * k)]) = H4 at e1 s4 ⊢
      have hP4 := hP3.same s4
      have hr4 := s4 _ _ hr3
      refine ⟨_, rfl, r, _, _, .int t, rfl, rfl, SqT.of hr4, at_of (j := 0) rfl rfl, _, rfl, _, _, rfl, rfl, mk _, _, rfl, r, _, _, .int b, rfl, rfl, SqT.of hr4, at_of (j := 1) rfl rfl, _, rfl, _, _, rfl, rfl, mk _, (by show 2 ≤ sizeLine; decide), fun l2 n2 => ?_⟩
      have e2 : upd H4 l2 (HO.lst [V.int (t * k), V.int (b * k)]) l2 = some (HO.lst [V.int (t * k), V.int (b * k)]) := upd_same
      have s5 : Same H4 (upd H4 l2 (HO.lst [V.int (t * k), V.int (b * k)])) := same_upd n2
      have l2p : l2 ≠ p := by
        obtain ⟨o, e⟩ := hP4.there
        exact (ne_of_none e n2).symm
      generalize upd H4 l2 (HO.lst [V.int (t * k), V.int (b * k)]) = H5 at e2 s5 ⊢
      have hP5 := hP4.same s5
      refine ⟨(by show 2 ≤ sizeLine; decide), fun l3 n3 => ?_⟩
      have e3 : upd H5 l3 (HO.lst [V.ref t1, V.ref l2]) l3 = some (HO.lst [V.ref t1, V.ref l2]) := upd_same
      have s6 : Same H5 (upd H5 l3 (HO.lst [V.ref t1, V.ref l2])) := same_upd n3
      have l3p : l3 ≠ p := by
        obtain ⟨o, e⟩ := hP5.there
        exact (ne_of_none e n3).symm
      generalize upd H5 l3 (HO.lst [V.ref t1, V.ref l2]) = H6 at e3 s6 ⊢
      have hP6 := hP5.same s6
      refine ⟨p, lc, l3, _, _, rfl, hP6, by omega, e3, l3p, (by show 0 < 2; decide), (by show 2 < 1000000; decide), fun x H7 hx hP7 k7 => ?_⟩
      have k17 : Kp p H H7 := ((k13.trans (Kp.of s4)).trans (Kp.of (s5.trans s6))).trans k7
      have hbk : 0 < b * k := Int.mul_pos hb hk0
      have pr : pair? [.int (t * k), .int (b * k)] = some (t * k, b * k) := by
        show (if 0 < b * k then some (t * k, b * k) else none) = some (t * k, b * k)
        rw [if_pos hbk]
      have gp := gd_pair (s80_k ht hk0 hk3) (s80_k hbz hk0 hk3)
      simp only [List.mem_cons, List.not_mem_nil, or_false] at hx
      rcases hx with h | h
      · rw [h]
        exact q _ (.tuple [.int (t * k), .int (b * k)]) k H7 (hP7.more (by omega)) k17 (.tup (SqT.of (nw_at (some_free k13 hP3.there.choose_spec n1) (k7 _ _ tp (s6 _ _ (s5 _ _ e1))))) (.cons (.int _) (.cons (.int _) .nil))) pr hk0 hk3 gp.2
      · rw [h]
        exact q _ (.list [.int (t * k), .int (b * k)]) k H7 (hP7.more (by omega)) k17 (.lst (SqL.of (nw_at (some_free k13 hP3.there.choose_spec (s4.free n2)) (k7 _ _ l2p (s6 _ _ e2)))) (.cons (.int _) (.cons (.int _) .nil))) pr hk0 hk3 gp.1
end
end Vf

set_option maxRecDepth 100000
set_option maxHeartbeats 8000000
namespace Vf
open PySem PySem.Spec PyProof.Rows L2
/-! ### the law's why: a lambda called in a try -/
/-- the classes that it names -/
structure Wc (K : PySem.W.Frag) (mg : Str → Option Value) (C : Nat → Addr) : Prop where
  m0 : mg "BadText" = some (.ref (C 0))
  m1 : mg "BadNumber" = some (.ref (C 1))
  m2 : mg "BadRow" = some (.ref (C 2))
  m3 : mg "TooMany" = some (.ref (C 3))
  m4 : mg "Unlike" = some (.ref (C 4))
  m5 : mg "TooWide" = some (.ref (C 5))
  m6 : mg "Pole" = some (.ref (C 6))
  xf : ∀ k, k < 7 → XfC K (C k)
  ex : ∀ k j, k < 7 → j < 7 → PySem.W.exmOne K (.ref (C k)) (.ref (C j)) = some (decide (k = j))
  n0 : PySem.W.findIn K (.ref (C 0)) "column" = some none
  n1 : PySem.W.findIn K (.ref (C 1)) "what" = some none
  n1b : PySem.W.findIn K (.ref (C 1)) "number" = some none
  n2 : PySem.W.findIn K (.ref (C 2)) "row" = some none
  n3 : PySem.W.findIn K (.ref (C 3)) "what" = some none
  n3b : PySem.W.findIn K (.ref (C 3)) "limit" = some none
  n4 : PySem.W.findIn K (.ref (C 4)) "what" = some none
  repr : mg "repr" = none
/-- repr of data, by the units alone (in a suite too) -/
theorem call_reprU {X : Cx} (K : PySem.W.Frag) (hg : X.A.guards = some []) (hu : X.A.units + 150 < cLine) (m : M1 X.base) (hK : X.K = K := by rfl) :
    CallR X (.builtin "repr") (fun xs H Q => ∃ v d, xs = [v] ∧ Dt K H v d ∧ small d ∧ Q (.str d.shown) H) := by
  subst hK
  intro pins s σ H xs us Q I r h
  obtain ⟨v, d, rfl, hd, ⟨hs, hz, hl⟩, q⟩ := h
  obtain ⟨u, rfl, ru⟩ := vals1 r
  obtain ⟨as, rd, na⟩ := Dt.reads I m hd ru
  have hu2 : X.A.units + (d.depth + 1) < cLine := by omega
  cases rd with
  | none => exact PySem.P.repr_of_none ⟨.str _, H, I.tok _, ⟨_, rfl⟩, by simpa only [PyData.shown] using q⟩
  | bool b => exact PySem.P.repr_of_bool ⟨.str _, H, I.tok _, ⟨_, rfl⟩, by simpa only [PyData.shown] using q⟩
  | int i t => exact PySem.P.repr_of_int (by simpa [PyData.showable] using hs) ⟨.str _, H, I.tok _, ⟨_, rfl⟩, by simpa only [PyData.shown] using q⟩
  | str x t => exact PySem.P.repr_of_str ⟨.str _, H, I.tok _, ⟨_, rfl⟩, by simpa only [PyData.shown] using q⟩ (by simpa only [PyData.shown] using hl)
  | list a1 a2 a3 a4 => exact repr_of_reads' (.list a1 a2 a3 a4) hs (fun _ => na) hg hu2 (fun _ _ e => e) (fun h' u tk hk => ⟨.str _, H, I.kept hk, ⟨_, rfl⟩, q⟩) hl
  | tuple a1 a2 a3 a4 => exact repr_of_reads' (.tuple a1 a2 a3 a4) hs (fun _ => na) hg hu2 (fun _ _ e => e) (fun h' u tk hk => ⟨.str _, H, I.kept hk, ⟨_, rfl⟩, q⟩) hl
  | dict a1 a2 a3 a4 a5 => exact repr_of_reads' (.dict a1 a2 a3 a4 a5) hs (fun _ => na) hg hu2 (fun _ _ e => e) (fun h' u tk hk => ⟨.str _, H, I.kept hk, ⟨_, rfl⟩, q⟩) hl
/-- what is taken, where the slots are as many as the names -/
theorem takes_len {X : Cx} {W : WX} (tk : Takes X W) : Takes X (fun cls d σ H => σ.length = X.N.length → W cls d σ H) := fun u s' z => by
  obtain ⟨a, B, sI, pins, σ, H, cls, d, e, J, nb, up, sky, na, os, ag, w⟩ := z
  exact tk u s' ⟨a, B, sI, pins, σ, H, cls, d, e, J, nb, up, sky, na, os, ag, w J.len⟩
/-- the tuple that is told of an error -/
def WhyE (K : PySem.W.Frag) (C : Nat → Addr) (Q : VK) : XK := fun cls d H =>
  (cls = .ref (C 1) ∧ ∃ (dd : Addr) (wv v : V) (dv : PyData), d = some dd ∧ H dd = some (.xd (fl ["what", "number"] [wv, v])) ∧ Dt K H v dv ∧ small dv ∧ ∀ (t : Addr) (H' : Hp), Same H H' → H' t = some (.tup [.str "number", wv, .str dv.shown]) → Q (.ref t) H') ∨
  (cls = .ref (C 2) ∧ ∃ (dd : Addr) (v : V) (dv : PyData), d = some dd ∧ H dd = some (.xd (fl ["row"] [v])) ∧ Dt K H v dv ∧ small dv ∧ ∀ (t : Addr) (H' : Hp), Same H H' → H' t = some (.tup [.str "row", .str dv.shown]) → Q (.ref t) H') ∨
  (cls = .ref (C 0) ∧ ∃ (dd : Addr) (v : V), d = some dd ∧ H dd = some (.xd (fl ["column"] [v])) ∧ ∀ (t : Addr) (H' : Hp), Same H H' → H' t = some (.tup [.str "text", v]) → Q (.ref t) H')
def TWhy (K : PySem.W.Frag) (C : Nat → Addr) : (XK → Hp → VK → Prop) → Hp → VK → Prop := fun tl H Q => tl (WhyE K C Q) H (fun _ H' => Q .non H')
abbrev sWhy : Stmt := topS 52
theorem scWhy : FnScope ["_law_call", "e"] ["_law_call"] (defScope sWhy) := ⟨rfl, rfl, rfl, by decide +kernel, rfl, by decide +kernel, by decide +kernel⟩
theorem why_gives {X : Cx} {q : Str} {g : Addr} {cdg : Value} {C : Nat → Addr} (T : Wc X.K X.mg C) (hgu : X.A.guards = some []) (hu : X.A.units + 160 < cLine) (hm1 : M1 X.base) :
    LamX.GivesTo X ["_law_call", "e"] "_law_why" (defScope sWhy) g cdg (defBody sWhy) "_law_call" q (TWhy X.K C) := by
  intro f c' s H Q tl act hc h
  refine ⟨_, pss_cons (ps_try_each (X := (cxOf C8.CX0 X.prog X.w X.K X.mg X.base ["_law_call", "e"] "_law_why" (defScope sWhy) g cdg X.A X.stack s H C8.E0).nox) (i := 1)
      (l := [(.ref (C 0), _), (.ref (C 1), _), (.ref (C 2), _), (.ref (C 3), _), (.ref (C 4), _), (.ref (C 5), _), (.ref (C 6), _)])
      (tb := fun W D σ H => ∃ Ech : XK, (∀ cls d σ' H', Ech cls d H' → σ'.length = 2 → W cls d σ' H') ∧ σ[0]? = some (some (.ref f)) ∧ H c' = some (LamX.CodeO c' q) ∧ tl Ech H fun _ H' => D.nx σ H')
      rfl rfl scWhy.nd LamX.takes0 (fun W pn xe tk _ => ?_)
      (.cons ⟨rfl, by decide, .inl T.m0⟩ rfl rfl (fun a oe cls d pn hz hf => pss_one (ps_ret (pe_tup (pa_cons pe_str (pa_cons (pe_xf (T.xf 0 (by decide)) T.n0 hz hf (pv 1)) pa_nil)))))
      (.cons ⟨rfl, by decide, .inl T.m1⟩ rfl rfl (fun a oe cls d pn hz hf => pss_one (ps_ret (pe_tup (pa_cons pe_str (pa_cons (pe_xf (T.xf 1 (by decide)) T.n1 hz hf (pv 1)) (pa_cons (pe_callB (id := "repr") (call_reprU X.K (X := (cxOf C8.CX0 X.prog X.w X.K X.mg X.base ["_law_call", "e"] "_law_why" (defScope sWhy) g cdg X.A X.stack s H C8.E0).nox.suite a ((a, oe) :: pn)) (by exact hgu) (by show X.A.units + 3 + 150 < cLine; omega) (by exact hm1)) (by rfl) T.repr (by decide +kernel) (pa_cons (pe_xf (T.xf 1 (by decide)) T.n1b hz hf (pv 1)) pa_nil)) pa_nil))))))
      (.cons ⟨rfl, by decide, .inl T.m2⟩ rfl rfl (fun a oe cls d pn hz hf => pss_one (ps_ret (pe_tup (pa_cons pe_str (pa_cons (pe_callB (id := "repr") (call_reprU X.K (X := (cxOf C8.CX0 X.prog X.w X.K X.mg X.base ["_law_call", "e"] "_law_why" (defScope sWhy) g cdg X.A X.stack s H C8.E0).nox.suite a ((a, oe) :: pn)) (by exact hgu) (by show X.A.units + 3 + 150 < cLine; omega) (by exact hm1)) (by rfl) T.repr (by decide +kernel) (pa_cons (pe_xf (T.xf 2 (by decide)) T.n2 hz hf (pv 1)) pa_nil)) pa_nil)))))
      (.cons ⟨rfl, by decide, .inl T.m3⟩ rfl rfl (fun a oe cls d pn hz hf => pss_one (ps_ret (pe_tup (pa_cons pe_str (pa_cons (pe_xf (T.xf 3 (by decide)) T.n3 hz hf (pv 1)) (pa_cons (pe_xf (T.xf 3 (by decide)) T.n3b hz hf (pv 1)) pa_nil))))))
      (.cons ⟨rfl, by decide, .inl T.m4⟩ rfl rfl (fun a oe cls d pn hz hf => pss_one (ps_ret (pe_tup (pa_cons pe_str (pa_cons (pe_xf (T.xf 4 (by decide)) T.n4 hz hf (pv 1)) pa_nil)))))
      (.cons ⟨rfl, by decide, .inl T.m5⟩ rfl rfl (fun a oe cls d pn hz hf => pss_one (ps_ret (pe_tup (pa_cons pe_str pa_nil))))
      (.cons ⟨rfl, by decide, .inl T.m6⟩ rfl rfl (fun a oe cls d pn hz hf => pss_one (ps_ret (pe_tup (pa_cons pe_str pa_nil)))) .nil))))))))
    (pss_one (ps_ret pe_non)), ?_⟩
  · refine ⟨fun pins s' σ H' D I h' => ?_⟩
    obtain ⟨Ech, hW, h1, h2, h3⟩ := h'
    exact (pss_one (ps_expr (act _ pn xe Ech _ _ (takes_len tk) (fun cls d σ' H' z len => hW cls d σ' H' z len)))).run pins s' σ H' D I ⟨h1, h2, h3⟩
  · refine ⟨WhyE X.K C Q, fun cls d σ' H' z len => ?_, rfl, hc, h⟩
    obtain ⟨x0, x1, rfl⟩ : ∃ x0 x1, σ' = [x0, x1] := by
      match σ', len with
      | [x0, x1], _ => exact ⟨x0, x1, rfl⟩
    rcases z with ⟨rfl, dd, wv, v, dv, rfl, hdd, hv, sm, k⟩ | ⟨rfl, dd, v, dv, rfl, hdd, hv, sm, k⟩ | ⟨rfl, dd, v, rfl, hdd, k⟩
    · refine ⟨false, T.ex 1 0 (by decide) (by decide), (fun z => nomatch z), fun _ => ⟨true, T.ex 1 1 (by decide) (by decide), fun _ a na => ?_, fun z => nomatch z⟩⟩
      refine ⟨.ref a, rfl, rfl, rfl, dd, _, wv, rfl, hdd, (by kernel_rfl), .ref a, rfl, rfl, rfl, dd, _, v, rfl, hdd, (by kernel_rfl), v, dv, rfl, hv, sm, (by show 3 ≤ sizeLine; decide), fun t nt => ?_⟩
      exact k t _ (same_upd nt) upd_same
    · refine ⟨false, T.ex 2 0 (by decide) (by decide), (fun z => nomatch z), fun _ => ⟨false, T.ex 2 1 (by decide) (by decide), (fun z => nomatch z), fun _ => ⟨true, T.ex 2 2 (by decide) (by decide), fun _ a na => ?_, fun z => nomatch z⟩⟩⟩
      refine ⟨.ref a, rfl, rfl, rfl, dd, _, v, rfl, hdd, (by kernel_rfl), v, dv, rfl, hv, sm, (by show 2 ≤ sizeLine; decide), fun t nt => ?_⟩
      exact k t _ (same_upd nt) upd_same
    · refine ⟨true, T.ex 0 0 (by decide) (by decide), fun _ a na => ?_, fun z => nomatch z⟩
      refine ⟨.ref a, rfl, rfl, rfl, dd, _, v, rfl, hdd, (by kernel_rfl), (by show 2 ≤ sizeLine; decide), fun t nt => ?_⟩
      exact k t _ (same_upd nt) upd_same
/-! ### what stands while lambdas are made -/
open LamX (ExtN Tabs TabS)
theorem sqL_n {K : PySem.W.Frag} {H H' : Hp} {a : Addr} {xs : List V} (e : ExtN H H') (h : SqL K H a xs) : SqL K H' a xs := by
  rcases h with (h | ⟨o, h⟩) | h
  · exact Or.inl (Or.inl (e a _ h (fun ps z => by cases z)))
  · exact Or.inl (Or.inr ⟨o, e a _ h (fun ps z => by cases z)⟩)
  · exact Or.inr h
theorem sqT_n {K : PySem.W.Frag} {H H' : Hp} {a : Addr} {xs : List V} (e : ExtN H H') (h : SqT K H a xs) : SqT K H' a xs := by
  rcases h with (h | ⟨o, h⟩) | h
  · exact Or.inl (Or.inl (e a _ h (fun ps z => by cases z)))
  · exact Or.inl (Or.inr ⟨o, e a _ h (fun ps z => by cases z)⟩)
  · exact Or.inr h
mutual
theorem Dt.n {K : PySem.W.Frag} {H H' : Hp} (e : ExtN H H') : ∀ {v : V} {d : PyData}, Dt K H v d → Dt K H' v d
  | _, _, .non => .non
  | _, _, .bl b => .bl b
  | _, _, .int i => .int i
  | _, _, .str x => .str x
  | _, _, .lst h1 h2 => .lst (sqL_n e h1) (Dts.n e h2)
  | _, _, .tup h1 h2 => .tup (sqT_n e h1) (Dts.n e h2)
  | _, _, .dct h1 h2 => .dct (e _ _ h1 (fun ps z => by cases z)) (Dts.n e h2)
theorem Dts.n {K : PySem.W.Frag} {H H' : Hp} (e : ExtN H H') : ∀ {vs : List V} {ds : List PyData}, Dts K H vs ds → Dts K H' vs ds
  | _, _, .nil => .nil
  | _, _, .cons h1 h2 => .cons (Dt.n e h1) (Dts.n e h2)
end
/-- all but p and the tables stands as it stood -/
def Kn (p : Addr) (H H' : Hp) : Prop := ∀ b o, b ≠ p → H b = some o → (∀ ps, o ≠ .tbl ps) → H' b = some o
theorem Kn.of {p : Addr} {H H' : Hp} (k : Kp p H H') : Kn p H H' := fun b o n e _ => k b o n e
theorem Kn.ext {p : Addr} {H H' : Hp} (k : ExtN H H') : Kn p H H' := fun b o _ e t => k b o e t
theorem Kn.same {p : Addr} {H H' : Hp} (k : Same H H') : Kn p H H' := fun b o _ e _ => k b o e
theorem Kn.trans {p : Addr} {H H1 H2 : Hp} (a : Kn p H H1) (b : Kn p H1 H2) : Kn p H H2 := fun c o n e t => b c o n (a c o n e t) t
theorem Kn.refl {p : Addr} {H : Hp} : Kn p H H := fun _ _ _ e _ => e
theorem Kn.wo {p : Addr} {H H' : Hp} (k : Kn p H H') : ExtN (wo p H) (wo p H') := fun b o e t => by
  unfold Vf.wo at e ⊢
  by_cases h : b = p
  · rw [if_pos h] at e
    cases e
  · rw [if_neg h] at e ⊢
    exact k b o h e t
theorem Pen.n {H H' : Hp} {p l : Addr} {B : Int} (h : Pen H p l B) (e : ExtN H H') : Pen H' p l B := by
  obtain ⟨ns, a, d, c, f, ⟨g1, g2, g3⟩, h2⟩ := h
  exact ⟨ns, a, d, c, f, ⟨e _ _ g1 (fun ps z => by cases z), e _ _ g2 (fun ps z => by cases z), g3⟩, h2⟩
/-- the pen's turns leave the tables -/
theorem tabs_kp {T : List (Addr × Str)} {H H' : Hp} {p l : Addr} {B : Int} (hP : Pen H p l B) (k : Kp p H H') (t : Tabs T H) : Tabs T H' := fun y hy => by
  obtain ⟨ns, a, d, c, f, g1, _⟩ := hP
  obtain ⟨ps, h1, h2, h3⟩ := t y hy
  refine ⟨ps, k _ _ (ne_of h1 g1.1 (by intro z; cases z)) h1, h2, fun pos cv hc => ?_⟩
  obtain ⟨c', e1, e2⟩ := h3 pos cv hc
  exact ⟨c', e1, k _ _ (ne_of e2 g1.1 (by intro z; unfold LamX.CodeO at z; cases z)) e2⟩
/-- a def of several that a slot may hold, called there; it may raise -/
structure HeldX (P : Program) (w : World) (K : PySem.W.Frag) (mg : Str → Option Value) (base : Heap) (k : Nat) (f : Addr) (sp : Sp) : Prop where
  ex : ∃ (fd : FuncData) (ps : List Str), FnOk P w K mg base (L2.CX P w) k f fd ps sp ∧ PySem.W.keepIn K (.ref f) = true ∧ Binds K fd ps []
def tCallF (i : Nat) (S : Addr → Prop) (sp : Sp) (E : XK) (t : TA) : TE := fun σ H Q => ∃ f, σ[i]? = some (some (.ref f)) ∧ S f ∧ t σ H fun vs H1 => sp vs H1 Q E
theorem pe_callF {X : Cx} {S : Addr → Prop} {sp : Sp} {k i : Nat} {E : XK} {x : Str} {p pos : Pos} {e : Expr} {es : List Expr} {t : TA} (A : ∀ f, S f → HeldX X.prog X.w X.K X.mg X.base k f sp) (hr : Room k X.A) (hN : X.N[i]? = some x) (hv : Vis X.env.scope x)
    (hx : Passes (L2.CX X.prog X.w) X E) (ha : PA X (e :: es) t) (hdb : (x == ("__debug__" : Str)) = false := by decide) (hcd : (x == ("__classdict__" : Str)) = false := by decide)
    (he : starEach (e :: es) X.env = (false, eval e X.env) :: starEach es X.env := by rfl) (hpl : (backTo pos (starEach es X.env)).any (·.1) = false := by rfl) : PE X (.Call (.Name x p) (e :: es) [] pos) (tCallF i S sp E t) := by
  refine ⟨fun pins s σ H Q I h => ?_⟩
  obtain ⟨f, hs, hS, ht⟩ := h
  obtain ⟨fd, ps, F, kp, b⟩ := (A f hS).ex
  refine (pe_callL (i := i) (f := f) (dvs := []) (E := E) F hr hN hv kp b .nil hx ha hdb hcd he hpl).run pins s σ H Q I ⟨hs, ?_⟩
  have z : (fun (vs : List V) (H1 : Hp) => sp (vs ++ []) H1 Q E) = fun vs H1 => sp vs H1 Q E := by
    funext vs H1
    rw [List.append_nil]
  rw [z]
  exact ht
end Vf

set_option maxRecDepth 100000
set_option maxHeartbeats 8000000
namespace Vf
open PySem PySem.Spec PyProof.Rows L2
section
variable {P : Program} {w : World} {K : PySem.W.Frag} {mg : Str → Option Value} {base : Heap} {CN : Addr}
abbrev sLPoly : Stmt := topS 42
/-- the law's own row without zeros behind -/
def spLPoly (K : PySem.W.Frag) : Sp := fun vs H Q _ => ∃ (a : Addr) (as : List Addr) (ps : List (Int × Int)), vs = [.ref a] ∧ SqL K H a (as.map V.ref) ∧ Tups H as ps ∧ as.length ≤ 1000 ∧
  ∀ (l : Addr) (as' : List Addr) (H' : Hp), Same H H' → H l = none → H' l = some (.lst (as'.map V.ref)) → Tups H' as' (strip ps) → Q (.ref l) H'
theorem scLPoly : FnScope ["_law_numbers", "_law_found", "_law_lap"] ["_law_numbers"] (defScope sLPoly) := ⟨rfl, rfl, rfl, by decide +kernel, rfl, by decide +kernel, by decide +kernel⟩
theorem ok_lpoly {f : Addr} {fd : FuncData} (F : Fun K "_law_poly" "_law_poly" sLPoly f fd) (T : Bk mg) (hm1 : M1 base) : FnOk P w K mg base CX0 1 f fd ["_law_numbers"] (spLPoly K) := by
  refine F.ok scLPoly (fun vs H Q E h => ?_) (fun cdv A outer s H vs Q E hr h => ?_)
  · obtain ⟨a, as, ps, rfl, _⟩ := h
    rfl
  · obtain ⟨a, as, ps, rfl, hS, hT, hz, q⟩ := h
    refine ⟨_, (pss_cons (ps_set (i := 1) scLPoly.nd rfl (Or.inl rfl) (pe_callTy call_list_of (by rfl) T.list (by decide +kernel) (pa_cons (pv 0) pa_nil)))
  (pss_cons (ps_for PassesOwn.never rfl (pi_range1 (by rfl) T.range (pa_cons (pe_callB call_len_seq (by rfl) T.len (by decide +kernel) (pa_cons (pv 0) pa_nil)) pa_nil)) (pg_name (i := 2) scLPoly.nd rfl (Or.inl rfl))
    (pss_cons (ps_if (PW.pt (pw_or (pt_cmpR (op_eqT hr.units hm1) (pv 1) (pe_lst pa_nil) (nomark _)) (pw_or1 (pt_cmpR op_ne (pe_ix ix_tup (pe_ix ix_list (pv 1) (pe_un un_neg pe_int) (fun _ _ => rfl)) pe_int (fun _ _ => rfl)) pe_int (nomark _)))))
      (pss_one ps_break)
      pss_nil)
    (pss_one (ps_expr (pe_bm0 PySem.F.plainAttrs_list PySem.F.slot_list_pop PySem.F.type_list_pop mt_pop (pv 1))))))
  (pss_one (ps_ret (pv 1))))), ?_⟩
    refine ⟨_, rfl, a, _, rfl, .inl hS, fun l nl => ?_⟩
    have el : upd H l (HO.lst (as.map V.ref)) l = some (HO.lst (as.map V.ref)) := upd_same
    have sl : Same H (upd H l (HO.lst (as.map V.ref))) := same_upd nl
    generalize upd H l (HO.lst (as.map V.ref)) = H1 at el sl ⊢
    have lm : (as.map V.ref).length = as.length := List.length_map ..
    refine ⟨_, rfl, a, _, rfl, .inl (same_sqL sl hS), _, rfl, by omega, by omega, for_range (lo := 0) (n := (((as.map V.ref).length : Nat) : Int).toNat) (fun i σ H2 => ∃ as' qs v, σ = [some (.ref a), some (.ref l), v] ∧ Same H H2 ∧ H2 l = some (.lst (as'.map V.ref)) ∧ Tups H2 as' qs ∧ strip qs = strip ps ∧ as'.length + i = as.length)
      ⟨as, ps, none, rfl, sl, el, hT.same sl, rfl, rfl⟩ ?_ ?_⟩
    · rintro i σ H2 hi ⟨as', qs, v, rfl, s2, e2, t2, hst, hn⟩
      refine ⟨_, rfl, (by show 0 ≤ sizeLine; decide), fun l0 n0 => ?_⟩
      have l0l : l0 ≠ l := (ne_of_none e2 n0).symm
      have s3 : Same H2 (upd H2 l0 (HO.lst [])) := same_upd n0
      have e0 : upd H2 l0 (HO.lst []) l0 = some (HO.lst []) := upd_same
      generalize upd H2 l0 (HO.lst []) = H3 at s3 e0 ⊢
      have e3 := s3 _ _ e2
      have t3 := t2.same s3
      refine ⟨.list (qs.map pairD), .list (([] : List (Int × Int)).map pairD), .lst (SqL.of e3) t3.dts, .lst (SqL.of e0) .nil, (plain_row _).2, (plain_row _).2, (depth_row _).2, _, rfl, ?_⟩
      rw [eqv_rowL]
      rcases snoc_cases qs with rfl | ⟨qs, y, rfl⟩
      · rw [decide_eq_true rfl]
        refine iteT ?_
        cases t3
        refine iteT ?_
        exact ⟨_, rfl, q l [] H3 (s2.trans s3) nl e3 (by rw [← hst]; exact .nil)⟩
      · rw [decide_eq_false (by simp)]
        refine iteF ?_
        obtain ⟨as2, r, rfl, t4, er⟩ := t3.unsnoc
        refine ⟨_, rfl, _, rfl, l, _, _, .ref r, rfl, rfl, SqL.of e3, (by rw [List.map_append]; exact atI_last _ _), r, _, _, .int y.1, rfl, rfl, SqT.of er, at_of (j := 0) rfl rfl, rfl, _, rfl, ?_⟩
        by_cases y0 : y.1 = 0
        · rw [decide_eq_true (by rw [y0])]
          refine iteF ?_
          refine ⟨_, rfl, .inl ⟨rfl, _, SqL.of e3⟩, l, _, .ref r, rfl, rfl, e3, (by simp), ?_⟩
          refine ⟨as2, qs, _, rfl, fun b o eb => ?_, ?_, ?_, ?_, ?_⟩
          · rw [upd_ne (ne_of_none eb nl)]
            exact s3 _ _ (s2 _ _ eb)
          · rw [upd_same, List.map_append]
            simp
          · refine t4.imp fun c p z => ?_
            rw [upd_ne (ne_of z e3 (by intro z; cases z))]
            exact z
          · rw [strip_snoc, if_pos y0] at hst
            exact hst
          · rw [List.length_append] at hn
            simp at hn
            omega
        · rw [decide_eq_false (fun z => y0 (by have z2 := V.int.inj z; exact z2))]
          refine iteT ?_
          refine ⟨_, rfl, q l (as2 ++ [r]) H3 (s2.trans s3) nl e3 ?_⟩
          rw [← hst, strip_snoc, if_neg y0]
          exact t3
    · rintro σ H2 ⟨as', qs, v, rfl, s2, e2, t2, hst, hn⟩
      have h0 : as'.length = 0 := by omega
      have h1 := t2.len
      have h2 : as' = [] := List.length_eq_zero_iff.mp h0
      have h3 : qs = [] := List.length_eq_zero_iff.mp (by omega)
      subst h2 h3
      exact ⟨_, rfl, q l [] H2 s2 nl e2 (by rw [← hst]; exact .nil)⟩
end
/-! ### the law's own polynomials -/
def spL2 (g : Rat → Rat → Rat) : Sp := fun vs H Q _ => ∃ (r1 r2 : Addr) (a b : Rat), vs = [.ref r1, .ref r2] ∧ TR H r1 a ∧ TR H r2 b ∧ Sr a ∧ Sr b ∧ ∀ (r : Addr) (H' : Hp), Same H H' → H r = none → TR H' r (g a b) → Q (.ref r) H'
def rAdd (a b : Rat) : Rat := a + b
def rMul (a b : Rat) : Rat := a * b
/-- every number is small -/
def SrL (a : List Rat) : Prop := ∀ i, Sr (cf a i)
theorem sr_zero : Sr 0 := ⟨by show (0 : Nat) < 2 ^ 1900; exact Nat.pow_pos (by decide), by show 1 < 2 ^ 1900; exact Nat.one_lt_pow (by decide) (by decide)⟩
def spLPP : Sp := fun vs H Q _ => ∃ (l1 l2 : Addr) (a b : List Rat), vs = [.ref l1, .ref l2] ∧ RL H l1 a ∧ RL H l2 b ∧ a.length ≤ 500 ∧ b.length ≤ 500 ∧ SrL a ∧ SrL b ∧ ∀ (l : Addr) (H' : Hp), Same H H' → RL H' l (stripQ (padd a b)) → Q (.ref l) H'
def spLPS : Sp := fun vs H Q _ => ∃ (l1 r : Addr) (a : List Rat) (c : Rat), vs = [.ref l1, .ref r] ∧ RL H l1 a ∧ TR H r c ∧ a.length ≤ 500 ∧ SrL a ∧ Sr c ∧ ∀ (l : Addr) (H' : Hp), Same H H' → RL H' l (stripQ (pscale a c)) → Q (.ref l) H'
def spLPM : Sp := fun vs H Q _ => ∃ (l1 l2 : Addr) (a b : List Rat), vs = [.ref l1, .ref l2] ∧ RL H l1 a ∧ RL H l2 b ∧ a.length ≤ 500 ∧ b.length ≤ 500 ∧ SrL a ∧ SrL b ∧ ∀ (l : Addr) (H' : Hp), Same H H' → RL H' l (stripQ (padd a (stripQ (pscale b (-1))))) → Q (.ref l) H'
theorem stripQ_len (l : List Rat) : (stripQ l).length ≤ l.length := stp_len (stripQ_stp l) (cf_stripQ l)
section
variable {P : Program} {w : World} {K : PySem.W.Frag} {mg : Str → Option Value} {base : Heap} {CN : Addr}
abbrev sLPlus : Stmt := topS 38
abbrev sLTimes : Stmt := topS 39
abbrev sLPPlus : Stmt := topS 43
abbrev sLPScaled : Stmt := topS 44
abbrev sLPMinus : Stmt := topS 45
theorem scLPlus : FnScope ["_law_one", "_law_two"] ["_law_one", "_law_two"] (defScope sLPlus) := ⟨rfl, rfl, rfl, by decide +kernel, rfl, by decide +kernel, by decide +kernel⟩
theorem den_ne (a b : Rat) : ((a.den : Int) * (b.den : Int)) ≠ 0 := by
  have h1 := a.den_nz
  have h2 := b.den_nz
  exact Int.mul_ne_zero (by omega) (by omega)
theorem ok_lplus {f : Addr} {fd : FuncData} (F : Fun K "_law_plus" "_law_plus" sLPlus f fd) (Gq : Df P w K mg base "_law_q" 2 ["_law_top", "_law_bottom"] spQ) : FnOk P w K mg base CX0 3 f fd ["_law_one", "_law_two"] (spL2 rAdd) := by
  refine F.ok scLPlus (fun vs H Q E h => ?_) (fun cdv A outer s H vs Q E hr h => ?_)
  · obtain ⟨r1, r2, a, b, rfl, _⟩ := h
    rfl
  · obtain ⟨r1, r2, a, b, rfl, h1, h2, za, zb, q⟩ := h
    refine ⟨_, (pss_one (ps_ret (pe_call Gq.ok (hr.mono (by decide)) rfl Gq.m Gq.kp Gq.b .nil pass0 (pa_cons (pe_op op_add (pe_op op_mulW (pe_ix ix_tup (pv 0) pe_int (fun _ _ => rfl)) (pe_ix ix_tup (pv 1) pe_int (fun _ _ => rfl))) (pe_op op_mulW (pe_ix ix_tup (pv 1) pe_int (fun _ _ => rfl)) (pe_ix ix_tup (pv 0) pe_int (fun _ _ => rfl)))) (pa_cons (pe_op op_mulW (pe_ix ix_tup (pv 0) pe_int (fun _ _ => rfl)) (pe_ix ix_tup (pv 1) pe_int (fun _ _ => rfl))) pa_nil))))), ?_⟩
    obtain ⟨s1, s2, s3⟩ := sr_sum za zb
    refine ⟨_, rfl, r1, _, _, .int a.num, rfl, rfl, SqT.of h1, at_of (j := 0) rfl rfl, _, rfl, r2, _, _, .int b.den, rfl, rfl, SqT.of h2, at_of (j := 1) rfl rfl, _, _, rfl, rfl, big_mulW za.n zb.d, ?_⟩
    refine ⟨_, rfl, r2, _, _, .int b.num, rfl, rfl, SqT.of h2, at_of (j := 0) rfl rfl, _, rfl, r1, _, _, .int a.den, rfl, rfl, SqT.of h1, at_of (j := 1) rfl rfl, _, _, rfl, rfl, big_mulW zb.n za.d, ?_⟩
    refine ⟨_, _, rfl, rfl, ?_⟩
    refine ⟨_, rfl, r1, _, _, .int a.den, rfl, rfl, SqT.of h1, at_of (j := 1) rfl rfl, _, rfl, r2, _, _, .int b.den, rfl, rfl, SqT.of h2, at_of (j := 1) rfl rfl, _, _, rfl, rfl, big_mulW za.d zb.d, ?_⟩
    refine ⟨_, _, rfl, den_ne a b, s1, s2, fun r H' ss nr er => ?_⟩
    rw [low_add] at er
    exact q r H' ss nr er
theorem scLTimes : FnScope ["_law_one", "_law_two"] ["_law_one", "_law_two"] (defScope sLTimes) := ⟨rfl, rfl, rfl, by decide +kernel, rfl, by decide +kernel, by decide +kernel⟩
theorem ok_ltimes {f : Addr} {fd : FuncData} (F : Fun K "_law_times" "_law_times" sLTimes f fd) (Gq : Df P w K mg base "_law_q" 2 ["_law_top", "_law_bottom"] spQ) : FnOk P w K mg base CX0 3 f fd ["_law_one", "_law_two"] (spL2 rMul) := by
  refine F.ok scLTimes (fun vs H Q E h => ?_) (fun cdv A outer s H vs Q E hr h => ?_)
  · obtain ⟨r1, r2, a, b, rfl, _⟩ := h
    rfl
  · obtain ⟨r1, r2, a, b, rfl, h1, h2, za, zb, q⟩ := h
    refine ⟨_, (pss_one (ps_ret (pe_call Gq.ok (hr.mono (by decide)) rfl Gq.m Gq.kp Gq.b .nil pass0 (pa_cons (pe_op op_mulW (pe_ix ix_tup (pv 0) pe_int (fun _ _ => rfl)) (pe_ix ix_tup (pv 1) pe_int (fun _ _ => rfl))) (pa_cons (pe_op op_mulW (pe_ix ix_tup (pv 0) pe_int (fun _ _ => rfl)) (pe_ix ix_tup (pv 1) pe_int (fun _ _ => rfl))) pa_nil))))), ?_⟩
    obtain ⟨s1, s2, s3⟩ := sr_sum za zb
    refine ⟨_, rfl, r1, _, _, .int a.num, rfl, rfl, SqT.of h1, at_of (j := 0) rfl rfl, _, rfl, r2, _, _, .int b.num, rfl, rfl, SqT.of h2, at_of (j := 0) rfl rfl, _, _, rfl, rfl, big_mulW za.n zb.n, ?_⟩
    refine ⟨_, rfl, r1, _, _, .int a.den, rfl, rfl, SqT.of h1, at_of (j := 1) rfl rfl, _, rfl, r2, _, _, .int b.den, rfl, rfl, SqT.of h2, at_of (j := 1) rfl rfl, _, _, rfl, rfl, big_mulW za.d zb.d, ?_⟩
    refine ⟨_, _, rfl, den_ne a b, s3, s2, fun r H' ss nr er => ?_⟩
    rw [low_times] at er
    exact q r H' ss nr er
/-- the law's stripping, on numbers -/
theorem lpoly_q {K : PySem.W.Frag} {H : Hp} {l : Addr} {qs : List Rat} {Q : VK} (h : RL H l qs) (hl : qs.length ≤ 1000) (k : ∀ (l' : Addr) (H' : Hp), Same H H' → RL H' l' (stripQ qs) → Q (.ref l') H') {E : XK} : spLPoly K [.ref l] H Q E := by
  obtain ⟨as, e, t⟩ := h
  have := t.lenQ
  refine ⟨l, as, qs.map pq, rfl, SqL.of e, t, by omega, fun l' as' H' s n e' t' => k l' H' s ⟨as', e', ?_⟩⟩
  rw [strip_map] at t'
  exact t'
theorem scLPPlus : FnScope ["_law_one", "_law_two", "_law_many", "_law_first", "_law_second", "_law_a", "_law_b"] ["_law_one", "_law_two"] (defScope sLPPlus) := ⟨rfl, rfl, rfl, by decide +kernel, rfl, by decide +kernel, by decide +kernel⟩
theorem ok_lpplus {f : Addr} {fd : FuncData} (F : Fun K "_law_p_plus" "_law_p_plus" sLPPlus f fd) (T : Bk mg) (hmax : mg "max" = none) (hzip : mg "zip" = none) (Gpoly : Df P w K mg base "_law_poly" 1 ["_law_numbers"] (spLPoly K)) (Gplus : Df P w K mg base "_law_plus" 3 ["_law_one", "_law_two"] (spL2 rAdd)) :
    FnOk P w K mg base CX0 4 f fd ["_law_one", "_law_two"] spLPP := by
  refine F.ok scLPPlus (fun vs H Q E h => ?_) (fun cdv A outer s H vs Q E hr h => ?_)
  · obtain ⟨l1, l2, a, b, rfl, _⟩ := h
    rfl
  · obtain ⟨l1, l2, a, b, rfl, ⟨as, e1, t1⟩, ⟨bs, e2, t2⟩, la, lb, za, zb, q⟩ := h
    refine ⟨_, (pss_cons (ps_set (i := 2) scLPPlus.nd rfl (Or.inl rfl) (pe_callB (cr_max rfl) (by rfl) hmax (by decide +kernel) (pa_cons (pe_lst (pa_cons (pe_callB call_len_seq (by rfl) T.len (by decide +kernel) (pa_cons (pv 0) pa_nil)) (pa_cons (pe_callB call_len_seq (by rfl) T.len (by decide +kernel) (pa_cons (pv 1) pa_nil)) pa_nil))) pa_nil)))
  (pss_cons (ps_par (i := 3) (j := 4) (by rfl) scLPPlus.nd rfl rfl (by decide) rfl rfl (pa_cons (pe_op op_cat (pv 0) (pe_op op_rep (pe_lst (pa_cons (pe_tup (pa_cons pe_int (pa_cons pe_int pa_nil))) pa_nil)) (pe_op op_sub (pv 2) (pe_callB call_len_seq (by rfl) T.len (by decide +kernel) (pa_cons (pv 0) pa_nil))))) (pa_cons (pe_op op_cat (pv 1) (pe_op op_rep (pe_lst (pa_cons (pe_tup (pa_cons pe_int (pa_cons pe_int pa_nil))) pa_nil)) (pe_op op_sub (pv 2) (pe_callB call_len_seq (by rfl) T.len (by decide +kernel) (pa_cons (pv 1) pa_nil))))) pa_nil)) (by rfl))
  (pss_one (ps_ret (pe_call Gpoly.ok (hr.mono (by decide)) rfl Gpoly.m Gpoly.kp Gpoly.b .nil pass0 (pa_cons (pe_lc (own := [("_law_a", 5), ("_law_b", 6)]) (g := gTup K 2 (gCons (gName 5) (gCons (gName 6) gNil))) (tt := tYes) rfl scLPPlus.nd (pi_zip (by rfl) hzip (pa_cons (pv 3) (pa_cons (pv 4) pa_nil))) (blkOk_by (N := ["_law_one", "_law_two", "_law_many", "_law_first", "_law_second", "_law_a", "_law_b"]) (sc := defScope sLPPlus) (by decide +kernel)) (fun _ _ _ _ _ => pg_tup rfl (pgs_cons (pg_name (i := 5) scLPPlus.nd rfl (Or.inl rfl)) (pgs_cons (pg_name (i := 6) scLPPlus.nd rfl (Or.inl rfl)) pgs_nil))) (fun _ _ _ _ _ => pts_nil) (fun _ _ _ _ _ => (pe_call Gplus.ok (hr.mono (by decide)) rfl Gplus.m Gplus.kp Gplus.b .nil pass0 (pa_cons (pv 5) (pa_cons (pv 6) pa_nil))))) pa_nil)))))), ?_⟩
    have n1 := t1.lenQ
    have n2 := t2.lenQ
    refine ⟨_, rfl, l1, _, rfl, .inl (SqL.of e1), _, rfl, l2, _, rfl, .inl (SqL.of e2), (by show 2 ≤ sizeLine; decide), fun lm nlm => ?_⟩
    rw [List.length_map, List.length_map, n1, n2]
    have elm : upd H lm (HO.lst [V.int (a.length : Nat), V.int (b.length : Nat)]) lm = some (HO.lst [V.int (a.length : Nat), V.int (b.length : Nat)]) := upd_same
    have s1 : Same H (upd H lm (HO.lst [V.int (a.length : Nat), V.int (b.length : Nat)])) := same_upd nlm
    generalize upd H lm (HO.lst [V.int (a.length : Nat), V.int (b.length : Nat)]) = H1 at elm s1 ⊢
    refine ⟨lm, [(a.length : Nat), (b.length : Nat)], rfl, SqL.of elm, (by show 0 < 2; decide), fun m hm1 hm2 => ?_⟩
    have hm : m = ((max a.length b.length : Nat) : Int) := by
      have h1 := hm2 (a.length : Nat) (by simp)
      have h2 := hm2 (b.length : Nat) (by simp)
      simp only [List.mem_cons, List.not_mem_nil, or_false] at hm1
      omega
    subst hm
    generalize hn : max a.length b.length = n
    have e1' := s1 _ _ e1
    have e2' := s1 _ _ e2
    -- first
    refine ⟨_, rfl, (by show 2 ≤ sizeLine; decide), fun t0 nt0 => ?_⟩
    have et0 : upd H1 t0 (HO.tup [V.int 0, V.int 1]) t0 = some (HO.tup [V.int 0, V.int 1]) := upd_same
    have s2 : Same H1 (upd H1 t0 (HO.tup [V.int 0, V.int 1])) := same_upd nt0
    generalize upd H1 t0 (HO.tup [V.int 0, V.int 1]) = H2 at et0 s2 ⊢
    refine ⟨(by show 1 ≤ sizeLine; decide), fun k1 nk1 => ?_⟩
    have ek1 : upd H2 k1 (HO.lst [V.ref t0]) k1 = some (HO.lst [V.ref t0]) := upd_same
    have s3 : Same H2 (upd H2 k1 (HO.lst [V.ref t0])) := same_upd nk1
    generalize upd H2 k1 (HO.lst [V.ref t0]) = H3 at ek1 s3 ⊢
    have e13 := s3 _ _ (s2 _ _ e1')
    refine ⟨_, rfl, _, rfl, l1, _, rfl, .inl (SqL.of e13), _, _, rfl, rfl, ?_⟩
    rw [List.length_map, n1]
    refine ⟨k1, _, _, rfl, rfl, ek1, by omega, by omega, (by rw [sizeLine_eq]; show 1 * _ ≤ _; omega), fun k2 nk2 => ?_⟩
    have ek2 : upd H3 k2 (HO.lst (List.replicate ((n : Nat) - (a.length : Nat) : Int).toNat [V.ref t0]).flatten) k2 = some (HO.lst ((List.replicate (n - a.length) t0).map V.ref)) := by
      rw [upd_same, flat_repQ, show ((n : Nat) - (a.length : Nat) : Int).toNat = n - a.length by omega]
    have s4 : Same H3 (upd H3 k2 (HO.lst (List.replicate ((n : Nat) - (a.length : Nat) : Int).toNat [V.ref t0]).flatten)) := same_upd nk2
    generalize upd H3 k2 (HO.lst (List.replicate ((n : Nat) - (a.length : Nat) : Int).toNat [V.ref t0]).flatten) = H4 at ek2 s4 ⊢
    refine ⟨l1, k2, _, _, rfl, rfl, s4 _ _ e13, ek2, (by rw [List.length_map, List.length_map, List.length_replicate, sizeLine_eq]; omega), fun f1 nf1 => ?_⟩
    have ef1 : upd H4 f1 (HO.lst (as.map V.ref ++ (List.replicate (n - a.length) t0).map V.ref)) f1 = some (HO.lst ((as ++ List.replicate (n - a.length) t0).map V.ref)) := by rw [upd_same, List.map_append]
    have s5 : Same H4 (upd H4 f1 (HO.lst (as.map V.ref ++ (List.replicate (n - a.length) t0).map V.ref))) := same_upd nf1
    generalize upd H4 f1 (HO.lst (as.map V.ref ++ (List.replicate (n - a.length) t0).map V.ref)) = H5 at ef1 s5 ⊢
    have s15 : Same H1 H5 := s2.trans (s3.trans (s4.trans s5))
    have tf1 : Tups H5 (as ++ List.replicate (n - a.length) t0) ((a ++ List.replicate (n - a.length) 0).map pq) := by
      rw [List.map_append]
      exact ((t1.same s1).same s15).app (tups_rep0 (show TR H5 t0 0 from s5 _ _ (s4 _ _ (s3 _ _ et0))) _)
    -- second
    refine ⟨_, rfl, (by show 2 ≤ sizeLine; decide), fun t0' nt0' => ?_⟩
    have et0' : upd H5 t0' (HO.tup [V.int 0, V.int 1]) t0' = some (HO.tup [V.int 0, V.int 1]) := upd_same
    have s6 : Same H5 (upd H5 t0' (HO.tup [V.int 0, V.int 1])) := same_upd nt0'
    generalize upd H5 t0' (HO.tup [V.int 0, V.int 1]) = H6 at et0' s6 ⊢
    refine ⟨(by show 1 ≤ sizeLine; decide), fun k3 nk3 => ?_⟩
    have ek3 : upd H6 k3 (HO.lst [V.ref t0']) k3 = some (HO.lst [V.ref t0']) := upd_same
    have s7 : Same H6 (upd H6 k3 (HO.lst [V.ref t0'])) := same_upd nk3
    generalize upd H6 k3 (HO.lst [V.ref t0']) = H7 at ek3 s7 ⊢
    have e27 := s7 _ _ (s6 _ _ (s15 _ _ e2'))
    refine ⟨_, rfl, _, rfl, l2, _, rfl, .inl (SqL.of e27), _, _, rfl, rfl, ?_⟩
    rw [List.length_map, n2]
    refine ⟨k3, _, _, rfl, rfl, ek3, by omega, by omega, (by rw [sizeLine_eq]; show 1 * _ ≤ _; omega), fun k4 nk4 => ?_⟩
    have ek4 : upd H7 k4 (HO.lst (List.replicate ((n : Nat) - (b.length : Nat) : Int).toNat [V.ref t0']).flatten) k4 = some (HO.lst ((List.replicate (n - b.length) t0').map V.ref)) := by
      rw [upd_same, flat_repQ, show ((n : Nat) - (b.length : Nat) : Int).toNat = n - b.length by omega]
    have s8 : Same H7 (upd H7 k4 (HO.lst (List.replicate ((n : Nat) - (b.length : Nat) : Int).toNat [V.ref t0']).flatten)) := same_upd nk4
    generalize upd H7 k4 (HO.lst (List.replicate ((n : Nat) - (b.length : Nat) : Int).toNat [V.ref t0']).flatten) = H8 at ek4 s8 ⊢
    refine ⟨l2, k4, _, _, rfl, rfl, s8 _ _ e27, ek4, (by rw [List.length_map, List.length_map, List.length_replicate, sizeLine_eq]; omega), fun f2 nf2 => ?_⟩
    have ef2 : upd H8 f2 (HO.lst (bs.map V.ref ++ (List.replicate (n - b.length) t0').map V.ref)) f2 = some (HO.lst ((bs ++ List.replicate (n - b.length) t0').map V.ref)) := by rw [upd_same, List.map_append]
    have s9 : Same H8 (upd H8 f2 (HO.lst (bs.map V.ref ++ (List.replicate (n - b.length) t0').map V.ref))) := same_upd nf2
    generalize upd H8 f2 (HO.lst (bs.map V.ref ++ (List.replicate (n - b.length) t0').map V.ref)) = H9 at ef2 s9 ⊢
    have s59 : Same H5 H9 := s6.trans (s7.trans (s8.trans s9))
    have tf2 : Tups H9 (bs ++ List.replicate (n - b.length) t0') ((b ++ List.replicate (n - b.length) 0).map pq) := by
      rw [List.map_append]
      exact (((t2.same s1).same s15).same s59).app (tups_rep0 (show TR H9 t0' 0 from s9 _ _ (s8 _ _ (s7 _ _ et0'))) _)
    have ef19 := s59 _ _ ef1
    have tf19 := tf1.same s59
    generalize as ++ List.replicate (n - a.length) t0 = xs at ef19 tf19 ef1 tf1
    generalize bs ++ List.replicate (n - b.length) t0' = ys at ef2 tf2
    have lx : xs.length = n := by
      have := tf19.lenQ
      rw [List.length_append, List.length_replicate] at this
      omega
    have ly : ys.length = n := by
      have := tf2.lenQ
      rw [List.length_append, List.length_replicate] at this
      omega
    have pad : ∀ (c : List Rat) (m i : Nat), cf (c ++ List.replicate m 0) i = cf c i := fun c m i => by
      rw [cf_app]
      split
      · rfl
      · rw [cf_rep0, cf_ge (by omega)]
    refine ⟨_, _, rfl, _, rfl, _, rfl, f1, f2, _, _, rfl, SqL.of ef19, SqL.of ef2, fun D hD => lc_zipL (K := K) (a := f1) (b := f2) (xs := xs.map V.ref) (ys := ys.map V.ref) (by rw [List.length_map, List.length_map, lx, ly]) (fun i H' => Same H9 H' ∧ ∃ zs, H' D = some (.lst (zs.map V.ref)) ∧ Tups H' zs ((tab i fun i => cf a i + cf b i).map pq)) ?_ ?_ ?_ ?_⟩
    · exact ⟨same_upd hD, [], upd_same, .nil⟩
    · rintro i H' ⟨ss, _⟩
      exact ⟨same_sqL ss (SqL.of ef19), same_sqL ss (SqL.of ef2)⟩
    · intro i x y T H' hx hy ⟨ss, zs, eD, tz⟩ nT
      rw [List.getElem?_map] at hx hy
      cases hx0 : xs[i]? with
      | none => rw [hx0] at hx; cases hx
      | some r1 =>
        cases hy0 : ys[i]? with
        | none => rw [hy0] at hy; cases hy
        | some r2 =>
          rw [hx0] at hx
          rw [hy0] at hy
          cases hx
          cases hy
          obtain ⟨q1, h1, g1⟩ := tf19.atQ hx0
          obtain ⟨q2, h2, g2⟩ := tf2.atQ hy0
          have c1 : q1 = cf a i := by rw [← cf_get h1, pad]
          have c2 : q2 = cf b i := by rw [← cf_get h2, pad]
          have sT : Same H' (upd H' T (.tup [V.ref r1, V.ref r2])) := same_upd nT
          refine ⟨T, _, rfl, SqT.of upd_same, rfl, _, _, rfl, _, _, rfl, rfl, rfl, ?_⟩
          refine ⟨_, rfl, _, rfl, r1, r2, q1, q2, rfl, (g1.same ss).same sT, (g2.same ss).same sT, (by rw [c1]; exact za i), (by rw [c2]; exact zb i), fun r H'' s' nr er => ?_⟩
          have eD' := s' _ _ (sT _ _ eD)
          have DT : D ≠ T := ne_of_none eD nT
          refine ⟨_, eD', ?_, (fun b' o' e' => ?_), zs ++ [r], ?_, ?_⟩
          · have := tz.lenQ
            rw [tab_len] at this
            have : i < n := by
              have := (List.getElem?_eq_some_iff.mp hx0).1
              omega
            rw [List.length_map, sizeLine_eq]
            omega
          · rw [upd_ne (ne_of_none e' hD)]
            exact s' _ _ (sT _ _ (ss _ _ e'))
          · rw [upd_same, List.map_append]
            rfl
          · rw [tab_snoc]
            have up : ∀ (c : Addr) (p : Int × Int), H'' c = some (.tup [.int p.1, .int p.2]) → upd H'' D (.lst (zs.map V.ref ++ [V.ref r])) c = some (.tup [.int p.1, .int p.2]) := fun c p z => by
              rw [upd_ne (ne_of z eD' (by intro z; cases z))]
              exact z
            refine Tups.snocQ ((((tz.same sT).same s')).imp up) ?_
            rw [c1, c2] at er
            exact up _ (pq (cf a i + cf b i)) er
    · rintro H' ⟨ss, zs, eD, tz⟩
      have e : tab (xs.map V.ref).length (fun i => cf a i + cf b i) = padd a b := by
        rw [List.length_map, lx, ← hn]
        rfl
      rw [e] at tz
      have s19 : Same H H' := s1.trans (s15.trans (s59.trans ss))
      refine lpoly_q (E := E0) ⟨zs, eD, tz⟩ (by unfold padd; rw [tab_len]; omega) fun l' H'' s' r => q l' H'' (s19.trans s') r
theorem scLPScaled : FnScope ["_law_one", "_law_by", "_law_a"] ["_law_one", "_law_by"] (defScope sLPScaled) := ⟨rfl, rfl, rfl, by decide +kernel, rfl, by decide +kernel, by decide +kernel⟩
theorem ok_lpscaled {f : Addr} {fd : FuncData} (F : Fun K "_law_p_scaled" "_law_p_scaled" sLPScaled f fd) (Gpoly : Df P w K mg base "_law_poly" 1 ["_law_numbers"] (spLPoly K)) (Gtimes : Df P w K mg base "_law_times" 3 ["_law_one", "_law_two"] (spL2 rMul)) :
    FnOk P w K mg base CX0 4 f fd ["_law_one", "_law_by"] spLPS := by
  refine F.ok scLPScaled (fun vs H Q E h => ?_) (fun cdv A outer s H vs Q E hr h => ?_)
  · obtain ⟨l1, r, a, c, rfl, _⟩ := h
    rfl
  · obtain ⟨l1, r, a, c, rfl, ⟨as, e1, t1⟩, hr2, la, za, zc, q⟩ := h
    refine ⟨_, (pss_one (ps_ret (pe_call Gpoly.ok (hr.mono (by decide)) rfl Gpoly.m Gpoly.kp Gpoly.b .nil pass0 (pa_cons (pe_lc (own := [("_law_a", 2)]) (g := gName 2) (tt := tYes) rfl scLPScaled.nd (pi_seq (pv 0)) (blkOk_by (N := ["_law_one", "_law_by", "_law_a"]) (sc := defScope sLPScaled) (by decide +kernel)) (fun _ _ _ _ _ => pg_name (i := 2) scLPScaled.nd rfl (Or.inl rfl)) (fun _ _ _ _ _ => pts_nil) (fun _ _ _ _ _ => (pe_call Gtimes.ok (hr.mono (by decide)) rfl Gtimes.m Gtimes.kp Gtimes.b .nil pass0 (pa_cons (pv 2) (pa_cons (pv 1) pa_nil))))) pa_nil)))), ?_⟩
    have n1 := t1.lenQ
    refine ⟨_, rfl, l1, rfl, lc_seq (xs := as.map V.ref) (.inl (SqL.of e1)) (fun D i H' => Same H H' ∧ ∃ zs, H' D = some (.lst (zs.map V.ref)) ∧ Tups H' zs ((tab i fun i => cf a i * c).map pq)) ?_ ?_ ?_ ?_⟩
    · intro D hD
      exact ⟨same_upd hD, [], upd_same, .nil⟩
    · intro D i H' hD ⟨ss, _⟩
      exact ⟨same_sqL ss, same_sqT ss⟩
    · intro D i x H' hD hx ⟨ss, zs, eD, tz⟩
      rw [List.getElem?_map] at hx
      cases hx0 : as[i]? with
      | none => rw [hx0] at hx; cases hx
      | some r1 =>
        rw [hx0] at hx
        cases hx
        obtain ⟨q1, h1, g1⟩ := t1.atQ hx0
        have c1 : q1 = cf a i := (cf_get h1).symm
        refine ⟨rfl, ?_⟩
        refine ⟨_, rfl, _, rfl, r1, r, q1, c, rfl, g1.same ss, hr2.same ss, (by rw [c1]; exact za i), zc, fun r' H'' s' nr er => ?_⟩
        have eD' := s' _ _ eD
        refine ⟨_, eD', ?_, (fun b' o' e' => ?_), zs ++ [r'], ?_, ?_⟩
        · have := tz.lenQ
          rw [tab_len] at this
          have := (List.getElem?_eq_some_iff.mp hx0).1
          rw [List.length_map, sizeLine_eq]
          omega
        · rw [upd_ne (ne_of_none e' hD)]
          exact s' _ _ (ss _ _ e')
        · rw [upd_same, List.map_append]
          rfl
        · rw [tab_snoc]
          have up : ∀ (c : Addr) (p : Int × Int), H'' c = some (.tup [.int p.1, .int p.2]) → upd H'' D (.lst (zs.map V.ref ++ [V.ref r'])) c = some (.tup [.int p.1, .int p.2]) := fun c p z => by
            rw [upd_ne (ne_of z eD' (by intro z; cases z))]
            exact z
          refine Tups.snocQ ((tz.same s').imp up) ?_
          rw [c1] at er
          exact up _ (pq (cf a i * c)) er
    · intro D H' hD ⟨ss, zs, eD, tz⟩
      have e : tab (as.map V.ref).length (fun i => cf a i * c) = pscale a c := by
        rw [List.length_map, n1]
        refine List.ext_getElem (by rw [tab_len]; unfold pscale; rw [List.length_map]) fun i h1 h2 => ?_
        rw [← cf_lt h1, ← cf_lt h2, cf_tab, if_pos (by rw [tab_len] at h1; exact h1)]
        unfold pscale
        rw [cf_map (f := fun x => x * c) (Rat.zero_mul c)]
      rw [e] at tz
      refine lpoly_q (E := E0) ⟨zs, eD, tz⟩ (by unfold pscale; rw [List.length_map]; omega) fun l' H'' s' r => q l' H'' (ss.trans s') r
theorem cf_pscale (a : List Rat) (c : Rat) (i : Nat) : cf (pscale a c) i = cf a i * c := by
  unfold pscale
  exact cf_map (f := fun x => x * c) (Rat.zero_mul c) a i
theorem sr_neg {q : Rat} (h : Sr q) : Sr (q * -1) := by
  have e : q * -1 = -q := by grind
  rw [e]
  exact ⟨by rw [Rat.neg_num, Int.natAbs_neg]; exact h.1, by rw [Rat.neg_den]; exact h.2⟩
theorem scLPMinus : FnScope ["_law_one", "_law_two"] ["_law_one", "_law_two"] (defScope sLPMinus) := ⟨rfl, rfl, rfl, by decide +kernel, rfl, by decide +kernel, by decide +kernel⟩
theorem ok_lpminus {f : Addr} {fd : FuncData} (F : Fun K "_law_p_minus" "_law_p_minus" sLPMinus f fd) (Gpp : Df P w K mg base "_law_p_plus" 4 ["_law_one", "_law_two"] spLPP) (Gps : Df P w K mg base "_law_p_scaled" 4 ["_law_one", "_law_by"] spLPS) :
    FnOk P w K mg base CX0 5 f fd ["_law_one", "_law_two"] spLPM := by
  refine F.ok scLPMinus (fun vs H Q E h => ?_) (fun cdv A outer s H vs Q E hr h => ?_)
  · obtain ⟨l1, l2, a, b, rfl, _⟩ := h
    rfl
  · obtain ⟨l1, l2, a, b, rfl, r1, r2, la, lb, za, zb, q⟩ := h
    refine ⟨_, (pss_one (ps_ret (pe_call Gpp.ok (hr.mono (by decide)) rfl Gpp.m Gpp.kp Gpp.b .nil pass0 (pa_cons (pv 0) (pa_cons (pe_call Gps.ok (hr.mono (by decide)) rfl Gps.m Gps.kp Gps.b .nil pass0 (pa_cons (pv 1) (pa_cons (pe_tup (pa_cons (pe_un un_neg pe_int) (pa_cons pe_int pa_nil))) pa_nil))) pa_nil))))), ?_⟩
    refine ⟨_, rfl, _, rfl, _, rfl, (by show 2 ≤ sizeLine; decide), fun t nt => ?_⟩
    have et : upd H t (HO.tup [V.int (-1), V.int 1]) t = some (HO.tup [V.int (-1), V.int 1]) := upd_same
    have s1 : Same H (upd H t (HO.tup [V.int (-1), V.int 1])) := same_upd nt
    generalize upd H t (HO.tup [V.int (-1), V.int 1]) = H1 at et s1 ⊢
    have sm1 : Sr (-1) := ⟨by show 1 < 2 ^ 1900; exact Nat.one_lt_pow (by decide) (by decide), by show 1 < 2 ^ 1900; exact Nat.one_lt_pow (by decide) (by decide)⟩
    refine ⟨l2, t, b, -1, rfl, r2.same s1, et, lb, zb, sm1, fun l H2 s2 rl => ?_⟩
    have s12 := s1.trans s2
    refine ⟨l1, l, a, _, rfl, r1.same s12, rl, la, ?_, za, fun i => ?_, fun l' H3 s3 r3 => q l' H3 (s12.trans s3) r3⟩
    · have := stripQ_len (pscale b (-1))
      have e : (pscale b (-1)).length = b.length := by unfold pscale; rw [List.length_map]
      omega
    · rw [cf_stripQ, cf_pscale]
      exact sr_neg (zb i)
end
end Vf

set_option maxRecDepth 100000
set_option maxHeartbeats 8000000
namespace Vf
open PySem PySem.Spec PyProof.Rows L2
def spLPT : Sp := fun vs H Q _ => ∃ (l1 l2 : Addr) (a b : List Rat) (M N M' N' : Nat), vs = [.ref l1, .ref l2] ∧ RL H l1 a ∧ RL H l2 b ∧ a.length ≤ 40 ∧ b.length ≤ 40 ∧ 0 < M ∧ 0 < M' ∧ 0 < N ∧ 0 < N' ∧ (∀ i, Fr M N (cf a i)) ∧ (∀ i, Fr M' N' (cf b i)) ∧
  M * M' < 2 ^ 1900 ∧ 41 * (N * N') < 2 ^ 1900 ∧ ∀ (l : Addr) (H' : Hp), Same H H' → RL H' l (stripQ (pmul a b)) → Q (.ref l) H'
/-- what has come to the number of a power after i rows and k numbers of the next one -/
def pt (a b : List Rat) (i k j : Nat) : Rat := sm (fun x => if x ≤ j then cf a x * cf b (j - x) else 0) i + if i ≤ j ∧ j - i < k then cf a i * cf b (j - i) else 0
theorem pt_zero (a b : List Rat) (j : Nat) : pt a b 0 0 j = 0 := by
  unfold pt
  rw [if_neg (by omega)]
  show (0 : Rat) + 0 = 0
  exact Rat.add_zero 0
theorem pt_next (a b : List Rat) (i k j : Nat) : pt a b i (k + 1) j = if j = i + k then pt a b i k j + cf a i * cf b k else pt a b i k j := by
  unfold pt
  by_cases h : j = i + k
  · rw [if_pos h, if_pos (by omega), if_neg (by omega), show j - i = k by omega, Rat.add_zero]
  · rw [if_neg h]
    by_cases h2 : i ≤ j ∧ j - i < k
    · rw [if_pos h2, if_pos (by omega)]
    · rw [if_neg h2, if_neg (by omega)]
theorem pt_row (a b : List Rat) (i j : Nat) : pt a b (i + 1) 0 j = pt a b i b.length j := by
  unfold pt
  rw [if_neg (by omega), Rat.add_zero]
  show sm _ i + (if i ≤ j then cf a i * cf b (j - i) else 0) = _
  congr 1
  by_cases h : i ≤ j
  · rw [if_pos h]
    by_cases h2 : j - i < b.length
    · rw [if_pos ⟨h, h2⟩]
    · rw [if_neg (fun z => h2 z.2), cf_ge (l := b) (by omega), Rat.mul_zero]
  · rw [if_neg h, if_neg (fun z => h z.1)]
theorem pt_end (a b : List Rat) (j : Nat) : pt a b a.length 0 j = pc a b j := by
  unfold pt pc
  rw [if_neg (by omega), Rat.add_zero]
  have e : sm (fun x => if x ≤ j then cf a x * cf b (j - x) else 0) (max a.length (j + 1)) = sm (fun x => if x ≤ j then cf a x * cf b (j - x) else 0) a.length :=
    sm_more (by omega) fun i h1 h2 => by
      rw [cf_ge h1, Rat.zero_mul]
      split <;> rfl
  have e2 : sm (fun x => if x ≤ j then cf a x * cf b (j - x) else 0) (max a.length (j + 1)) = sm (fun x => if x ≤ j then cf a x * cf b (j - x) else 0) (j + 1) :=
    sm_more (by omega) fun i h1 h2 => by rw [if_neg (by omega)]
  rw [← e, e2]
  exact sm_ext fun i hi => by rw [if_pos (by omega)]
theorem pt_fr {a b : List Rat} {M N M' N' : Nat} (ha : ∀ i, Fr M N (cf a i)) (hb : ∀ i, Fr M' N' (cf b i)) (i k j : Nat) : Fr (M * M') ((i + 1) * (N * N')) (pt a b i k j) := by
  unfold pt
  have h1 : Fr (M * M') (i * (N * N')) (sm (fun x => if x ≤ j then cf a x * cf b (j - x) else 0) i) := sm_fr fun x _ => by
    split
    · exact (ha x).mul (hb _)
    · exact Fr.zero _ _
  rw [Nat.succ_mul]
  refine h1.add ?_
  split
  · exact (ha i).mul (hb _)
  · exact Fr.zero _ _
section
variable {P : Program} {w : World} {K : PySem.W.Frag} {mg : Str → Option Value} {base : Heap} {CN : Addr}
abbrev sLPTimes : Stmt := topS 46
theorem scLPTimes : FnScope ["_law_one", "_law_two", "_law_found", "_law_i", "_law_k"] ["_law_one", "_law_two"] (defScope sLPTimes) := ⟨rfl, rfl, rfl, by decide +kernel, rfl, by decide +kernel, by decide +kernel⟩
theorem ok_lptimes {f : Addr} {fd : FuncData} (F : Fun K "_law_p_times" "_law_p_times" sLPTimes f fd) (T : Bk mg) (hmax : mg "max" = none) (Gpoly : Df P w K mg base "_law_poly" 1 ["_law_numbers"] (spLPoly K)) (Gplus : Df P w K mg base "_law_plus" 3 ["_law_one", "_law_two"] (spL2 rAdd)) (Gtimes : Df P w K mg base "_law_times" 3 ["_law_one", "_law_two"] (spL2 rMul)) :
    FnOk P w K mg base CX0 4 f fd ["_law_one", "_law_two"] spLPT := by
  refine F.ok scLPTimes (fun vs H Q E h => ?_) (fun cdv A outer s H vs Q E hr h => ?_)
  · obtain ⟨l1, l2, a, b, M, N, M', N', rfl, _⟩ := h
    rfl
  · obtain ⟨l1, l2, a, b, M, N, M', N', rfl, ⟨as, e1, t1⟩, ⟨bs, e2, t2⟩, la, lb, hM, hM', hN, hN', fa, fb, hMM, hNN, q⟩ := h
    refine ⟨_, (pss_cons (ps_set (i := 2) scLPTimes.nd rfl (Or.inl rfl) (pe_op op_rep (pe_lst (pa_cons (pe_tup (pa_cons pe_int (pa_cons pe_int pa_nil))) pa_nil)) (pe_callB (cr_max rfl) (by rfl) hmax (by decide +kernel) (pa_cons (pe_lst (pa_cons pe_int (pa_cons (pe_op op_sub (pe_op op_add (pe_callB call_len_seq (by rfl) T.len (by decide +kernel) (pa_cons (pv 0) pa_nil)) (pe_callB call_len_seq (by rfl) T.len (by decide +kernel) (pa_cons (pv 1) pa_nil))) pe_int) pa_nil))) pa_nil))))
  (pss_cons (ps_for PassesOwn.never rfl (pi_range1 (by rfl) T.range (pa_cons (pe_callB call_len_seq (by rfl) T.len (by decide +kernel) (pa_cons (pv 0) pa_nil)) pa_nil)) (pg_name (i := 3) scLPTimes.nd rfl (Or.inl rfl))
    (pss_one (ps_for PassesOwn.never rfl (pi_range1 (by rfl) T.range (pa_cons (pe_callB call_len_seq (by rfl) T.len (by decide +kernel) (pa_cons (pv 1) pa_nil)) pa_nil)) (pg_name (i := 4) scLPTimes.nd rfl (Or.inl rfl))
      (pss_one (ps_asg (pe_call Gplus.ok (hr.mono (by decide)) rfl Gplus.m Gplus.kp Gplus.b .nil pass0 (pa_cons (pe_ix ix_list (pv 2) (pe_op op_add (pv 3) (pv 4)) (fun _ _ => rfl)) (pa_cons (pe_call Gtimes.ok (hr.mono (by decide)) rfl Gtimes.m Gtimes.kp Gtimes.b .nil pass0 (pa_cons (pe_ix ix_list (pv 0) (pv 3) (fun _ _ => rfl)) (pa_cons (pe_ix ix_list (pv 1) (pv 4) (fun _ _ => rfl)) pa_nil))) pa_nil))) (pg_sub (pv 2) (pe_op op_add (pv 3) (pv 4)) set_list))))))
  (pss_one (ps_ret (pe_call Gpoly.ok (hr.mono (by decide)) rfl Gpoly.m Gpoly.kp Gpoly.b .nil pass0 (pa_cons (pv 2) pa_nil)))))), ?_⟩
    have n1 := t1.lenQ
    have n2 := t2.lenQ
    have hMp : 0 < M * M' := Nat.mul_pos hM hM'
    have sA : SrL a := fun i => (fa i).sr hM (by have := Nat.le_mul_of_pos_right M hM'; omega) (by
      have := Nat.le_mul_of_pos_right N hN'
      omega)
    have sB : SrL b := fun i => (fb i).sr hM' (by have := Nat.le_mul_of_pos_left M' hM; omega) (by
      have := Nat.le_mul_of_pos_left N' hN
      omega)
    have sP : ∀ i k j, i ≤ 40 → Sr (pt a b i k j) := fun i k j hi => (pt_fr fa fb i k j).sr hMp hMM (by
      have : (i + 1) * (N * N') ≤ 41 * (N * N') := Nat.mul_le_mul_right _ (by omega)
      omega)
    have sM : ∀ i k, Sr (cf a i * cf b k) := fun i k => ((fa i).mul (fb k)).sr hMp hMM (by omega)
    refine ⟨(by show 2 ≤ sizeLine; decide), fun t0 nt0 => ?_⟩
    have et0 : upd H t0 (HO.tup [V.int 0, V.int 1]) t0 = some (HO.tup [V.int 0, V.int 1]) := upd_same
    have s1 : Same H (upd H t0 (HO.tup [V.int 0, V.int 1])) := same_upd nt0
    generalize upd H t0 (HO.tup [V.int 0, V.int 1]) = H1 at et0 s1 ⊢
    refine ⟨(by show 1 ≤ sizeLine; decide), fun k1 nk1 => ?_⟩
    have ek1 : upd H1 k1 (HO.lst [V.ref t0]) k1 = some (HO.lst [V.ref t0]) := upd_same
    have s2 : Same H1 (upd H1 k1 (HO.lst [V.ref t0])) := same_upd nk1
    generalize upd H1 k1 (HO.lst [V.ref t0]) = H2 at ek1 s2 ⊢
    have s12 := s1.trans s2
    refine ⟨_, rfl, l1, _, rfl, .inl (SqL.of (s12 _ _ e1)), _, rfl, l2, _, rfl, .inl (SqL.of (s12 _ _ e2)), _, _, rfl, rfl, _, _, rfl, rfl, (by show 2 ≤ sizeLine; decide), fun lm nlm => ?_⟩
    rw [List.length_map, List.length_map, n1, n2]
    have elm : upd H2 lm (HO.lst [V.int 0, V.int ((a.length : Nat) + (b.length : Nat) - 1)]) lm = some (HO.lst [V.int 0, V.int ((a.length : Nat) + (b.length : Nat) - 1)]) := upd_same
    have s3 : Same H2 (upd H2 lm (HO.lst [V.int 0, V.int ((a.length : Nat) + (b.length : Nat) - 1)])) := same_upd nlm
    generalize upd H2 lm (HO.lst [V.int 0, V.int ((a.length : Nat) + (b.length : Nat) - 1)]) = H3 at elm s3 ⊢
    refine ⟨lm, [0, (a.length : Nat) + (b.length : Nat) - 1], rfl, SqL.of elm, (by show 0 < 2; decide), fun m hm1 hm2 => ?_⟩
    have hm : m.toNat = a.length + b.length - 1 ∧ 0 ≤ m ∧ m ≤ 100 := by
      have h1 := hm2 0 (by simp)
      have h2 := hm2 ((a.length : Nat) + (b.length : Nat) - 1) (by simp)
      simp only [List.mem_cons, List.not_mem_nil, or_false] at hm1
      omega
    refine ⟨k1, m, _, rfl, rfl, s3 _ _ ek1, by omega, by omega, (by rw [sizeLine_eq]; show 1 * _ ≤ _; omega), fun fo nfo => ?_⟩
    have efo : upd H3 fo (HO.lst (List.replicate m.toNat [V.ref t0]).flatten) fo = some (HO.lst ((List.replicate (a.length + b.length - 1) t0).map V.ref)) := by
      rw [upd_same, flat_repQ, hm.1]
    have s4 : Same H3 (upd H3 fo (HO.lst (List.replicate m.toNat [V.ref t0]).flatten)) := same_upd nfo
    generalize upd H3 fo (HO.lst (List.replicate m.toNat [V.ref t0]).flatten) = H4 at efo s4 ⊢
    have s04 : Same H H4 := s12.trans (s3.trans s4)
    have nfoH : H fo = none := (s12.trans s3).free nfo
    have tz : TR H4 t0 0 := s4 _ _ (s3 _ _ (s2 _ _ et0))
    have fo1 : l1 ≠ fo := ne_of_none e1 nfoH
    have fo2 : l2 ≠ fo := ne_of_none e2 nfoH
    generalize hL : a.length + b.length - 1 = L at efo
    have e0 : List.replicate L (0 : Rat) = tab L (pt a b 0 0) := by
      refine List.ext_getElem (by rw [List.length_replicate, tab_len]) fun j h1 h2 => ?_
      rw [← cf_lt h1, ← cf_lt h2, cf_rep0, cf_tab, if_pos (by rw [List.length_replicate] at h1; exact h1), pt_zero]
    have t4 := tups_rep0 tz L
    rw [e0] at t4
    refine ⟨_, rfl, l1, _, rfl, .inl (SqL.of (s04 _ _ e1)), ?_⟩
    rw [List.length_map, n1]
    refine ⟨_, rfl, by omega, by omega, for_range (lo := 0) (n := ((a.length : Nat) : Int).toNat) (fun i σ H' => ∃ v3 v4 zs, σ = [some (.ref l1), some (.ref l2), some (.ref fo), v3, v4] ∧ Same H H' ∧ H' fo = some (.lst (zs.map V.ref)) ∧ Tups H' zs ((tab L (pt a b i 0)).map pq)) ⟨none, none, _, rfl, s04, efo, t4⟩ ?_ ?_⟩
    · rintro i σ H5 hi ⟨v3, v4, zs, rfl, s5, e5, t5⟩
      have hi : i < a.length := by omega
      obtain ⟨ra, ha1, ha2⟩ := t1.getQ hi
      refine ⟨_, rfl, l2, _, rfl, .inl (SqL.of (s5 _ _ e2)), ?_⟩
      rw [List.length_map, n2]
      refine ⟨_, rfl, by omega, by omega, for_range (lo := 0) (n := ((b.length : Nat) : Int).toNat) (fun k σ H' => ∃ v4 zs, σ = [some (.ref l1), some (.ref l2), some (.ref fo), some (.int (0 + (i : Int))), v4] ∧ Same H H' ∧ H' fo = some (.lst (zs.map V.ref)) ∧ Tups H' zs ((tab L (pt a b i k)).map pq)) ⟨_, _, rfl, s5, e5, t5⟩ ?_ ?_⟩
      · rintro k σ H6 hk ⟨v4, zs, rfl, s6, e6, t6⟩
        have hk : k < b.length := by omega
        have hik : i + k < L := by omega
        obtain ⟨rb, hb1, hb2⟩ := t2.getQ hk
        obtain ⟨rc, hc1, hc2⟩ := t6.getQ (i := i + k) (by rw [tab_len]; exact hik)
        rw [cf_tab, if_pos hik] at hc2
        have ix : (0 + (i : Int)) + (0 + (k : Int)) = ((i + k : Nat) : Int) := by omega
        have gc : (zs.map V.ref)[i + k]? = some (V.ref rc) := by rw [List.getElem?_map, hc1]; rfl
        have ga : (as.map V.ref)[i]? = some (V.ref ra) := by rw [List.getElem?_map, ha1]; rfl
        have gb : (bs.map V.ref)[k]? = some (V.ref rb) := by rw [List.getElem?_map, hb1]; rfl
        refine ⟨_, rfl, _, rfl, _, rfl, _, _, rfl, rfl, fo, _, _, .ref rc, rfl, rfl, SqL.of e6, at_of ix gc, ?_⟩
        refine ⟨_, rfl, _, rfl, l1, _, _, .ref ra, rfl, rfl, SqL.of (s6 _ _ e1), at_of (by omega) ga, _, rfl, _, rfl, l2, _, _, .ref rb, rfl, rfl, SqL.of (s6 _ _ e2), at_of (by omega) gb, ?_⟩
        refine ⟨ra, rb, cf a i, cf b k, rfl, ha2.same s6, hb2.same s6, sA i, sB k, fun r7 H7 s7 nr7 er7 => ?_⟩
        refine ⟨rc, r7, _, _, rfl, hc2.same s7, er7, sP i k _ (by omega), sM i k, fun r8 H8 s8 nr8 er8 => ?_⟩
        have s78 := s7.trans s8
        have e8 := s78 _ _ e6
        have zl := t6.lenQ
        rw [tab_len] at zl
        have hix : ixN (zs.map V.ref).length ((0 + (i : Int)) + (0 + (k : Int))) = some (i + k) := by
          unfold ixN
          rw [ix, if_pos (by omega), List.length_map, zl, if_pos (by omega)]
          rfl
        refine ⟨_, rfl, _, rfl, _, rfl, _, _, rfl, rfl, fo, _, _, i + k, rfl, rfl, e8, hix, ?_⟩
        refine ⟨_, zs.set (i + k) r8, rfl, (fun b' o' e' => ?_), ?_, ?_⟩
        · rw [upd_ne (ne_of_none e' nfoH)]
          exact s78 _ _ (s6 _ _ e')
        · rw [upd_same, List.map_set]
        · have up : ∀ (c : Addr) (p : Int × Int), H8 c = some (.tup [.int p.1, .int p.2]) → upd H8 fo (.lst ((zs.map V.ref).set (i + k) (V.ref r8))) c = some (.tup [.int p.1, .int p.2]) := fun c p z => by
            rw [upd_ne (ne_of z e8 (by intro z; cases z))]
            exact z
          have er8' : TR H8 r8 (pt a b i k (i + k) + cf a i * cf b k) := er8
          have t8 := ((t6.same s78).setQ (i + k) er8').imp up
          have eq : (tab L (pt a b i k)).set (i + k) (pt a b i k (i + k) + cf a i * cf b k) = tab L (pt a b i (k + 1)) := by
            refine List.ext_getElem (by rw [List.length_set, tab_len, tab_len]) fun j h1 h2 => ?_
            rw [tab_len] at h2
            rw [← cf_lt h1, ← cf_lt (by rw [tab_len]; exact h2), cf_set (by rw [tab_len]; exact hik), cf_tab, cf_tab, if_pos h2, if_pos h2, pt_next]
            split
            · rename_i h; rw [h]
            · rfl
          rw [eq] at t8
          exact t8
      · rintro σ H6 ⟨v4, zs, rfl, s6, e6, t6⟩
        refine ⟨_, _, zs, rfl, s6, e6, ?_⟩
        have eq : tab L (pt a b i ((b.length : Nat) : Int).toNat) = tab L (pt a b (i + 1) 0) := by
          rw [Int.toNat_natCast]
          unfold tab
          refine List.map_congr_left fun j _ => (pt_row a b i j).symm
        rw [eq] at t6
        exact t6
    · rintro σ H5 ⟨v3, v4, zs, rfl, s5, e5, t5⟩
      refine ⟨_, rfl, ?_⟩
      have eq : tab L (pt a b ((a.length : Nat) : Int).toNat 0) = pmul a b := by
        rw [Int.toNat_natCast]
        unfold pmul
        rw [hL]
        unfold tab
        refine List.map_congr_left fun j _ => pt_end a b j
      rw [eq] at t5
      refine lpoly_q (E := E0) ⟨zs, e5, t5⟩ (by unfold pmul; rw [tab_len]; omega) fun l' H'' s' r => q l' H'' (s5.trans s') r
end
end Vf

set_option maxRecDepth 100000
set_option maxHeartbeats 8000000
namespace Vf
open PySem PySem.Spec PyProof.Rows L2
/-- the value by Horner's steps -/
def hor (x : Rat) : List Rat → Rat
  | [] => 0
  | c :: l => hor x l * x + c
theorem hor_step {x : Rat} {a : List Rat} {j : Nat} (h : j < a.length) : hor x (a.drop (a.length - (j + 1))) = hor x (a.drop (a.length - j)) * x + cf a (a.length - 1 - j) := by
  have h1 : a.length - (j + 1) < a.length := by omega
  rw [List.drop_eq_getElem_cons h1]
  show hor x (a.drop (a.length - (j + 1) + 1)) * x + _ = _
  rw [show a.length - (j + 1) + 1 = a.length - j by omega, cf_lt (show a.length - 1 - j < a.length by omega)]
  congr 2
  omega
theorem rev_at {a : List Rat} {j : Nat} {as : List Addr} {r : Addr} (hl : as.length = a.length) (h : (as.map V.ref).reverse[j]? = some (V.ref r)) : as[a.length - 1 - j]? = some r ∧ j < a.length := by
  have hj : j < a.length := by
    have := (List.getElem?_eq_some_iff.mp h).1
    rw [List.length_reverse, List.length_map] at this
    omega
  rw [List.getElem?_reverse (by rw [List.length_map]; omega), List.length_map, List.getElem?_map, hl] at h
  refine ⟨?_, hj⟩
  cases e : as[a.length - 1 - j]? with
  | none => rw [e] at h; cases h
  | some r' =>
    rw [e] at h
    cases h
    rfl
theorem fr_hor {M N B L W j : Nat} {y x c : Rat} (hB : B ≤ W) (hL : L ≤ W) (hy : Fr (M * B ^ j) (N * (j * W ^ j)) y) (hx : Fr B L x) (hc : Fr M N c) : Fr (M * B ^ (j + 1)) (N * ((j + 1) * W ^ (j + 1))) (y * x + c) := by
  have h1 := hy.mul hx
  have h2 := hc.scale (B ^ (j + 1))
  rw [Nat.mul_assoc, ← Nat.pow_succ] at h1
  refine (h1.add h2).le ?_
  have e1 : N * (j * W ^ j) * L ≤ N * (j * W ^ (j + 1)) := by
    rw [Nat.mul_assoc, Nat.mul_assoc, Nat.pow_succ]
    exact Nat.mul_le_mul_left _ (Nat.mul_le_mul_left _ (Nat.mul_le_mul_left _ hL))
  have e2 : N * B ^ (j + 1) ≤ N * W ^ (j + 1) := Nat.mul_le_mul_left _ (Nat.pow_le_pow_left hB _)
  have e3 : N * ((j + 1) * W ^ (j + 1)) = N * (j * W ^ (j + 1)) + N * W ^ (j + 1) := by rw [Nat.succ_mul, Nat.mul_add]
  omega
def spLPA : Sp := fun vs H Q _ => ∃ (l1 r : Addr) (a : List Rat) (x : Rat) (M N B L W : Nat), vs = [.ref l1, .ref r] ∧ RL H l1 a ∧ TR H r x ∧ (∀ i, Fr M N (cf a i)) ∧ Fr B L x ∧ 0 < M ∧ 0 < B ∧ B ≤ W ∧ L ≤ W ∧
  M * W ^ (a.length + 1) < 2 ^ 1900 ∧ N * ((a.length + 1) * W ^ (a.length + 1)) < 2 ^ 1900 ∧ L < 2 ^ 1900 ∧ ∀ (r' : Addr) (H' : Hp), Same H H' → TR H' r' (hor x a) → Q (.ref r') H'
def pslope (a : List Rat) : List Rat := tab (a.length - 1) fun j => cf a (j + 1) * ((j + 1 : Nat) : Rat)
def spLPSl : Sp := fun vs H Q _ => ∃ (l1 : Addr) (a : List Rat), vs = [.ref l1] ∧ RL H l1 a ∧ a.length ≤ 500 ∧ SrL a ∧ ∀ (l : Addr) (H' : Hp), Same H H' → RL H' l (stripQ (pslope a)) → Q (.ref l) H'
/-- the law's moving, step by step -/
def mvl (s t : Rat) : List Rat → List Rat
  | [] => []
  | c :: l => stripQ (padd (stripQ (pmul (mvl s t l) (stripQ [s, t]))) (stripQ [c]))
theorem mvl_len (s t : Rat) : ∀ a : List Rat, (mvl s t a).length ≤ a.length
  | [] => Nat.le_refl _
  | c :: l => by
    have ih := mvl_len s t l
    show (stripQ _).length ≤ _
    have h1 := stripQ_len (padd (stripQ (pmul (mvl s t l) (stripQ [s, t]))) (stripQ [c]))
    have h2 := stripQ_len (pmul (mvl s t l) (stripQ [s, t]))
    have h3 := stripQ_len [s, t]
    have h4 := stripQ_len [c]
    have e1 : (padd (stripQ (pmul (mvl s t l) (stripQ [s, t]))) (stripQ [c])).length = max (stripQ (pmul (mvl s t l) (stripQ [s, t]))).length (stripQ [c]).length := by unfold padd; rw [tab_len]
    have e2 : (pmul (mvl s t l) (stripQ [s, t])).length = (mvl s t l).length + (stripQ [s, t]).length - 1 := by unfold pmul; rw [tab_len]
    simp only [List.length_cons, List.length_nil] at *
    omega
theorem pc_line {a b : List Rat} (hb : ∀ k, 2 ≤ k → cf b k = 0) : ∀ i, pc a b i = cf a i * cf b 0 + if i = 0 then 0 else cf a (i - 1) * cf b 1
  | 0 => by
    unfold pc
    show sm (fun x => cf a x * cf b (0 - x)) 0 + cf a 0 * cf b (0 - 0) = _
    rw [if_pos rfl, Rat.add_zero]
    show (0 : Rat) + _ = _
    rw [Rat.zero_add]
  | k + 1 => by
    unfold pc
    show sm (fun x => cf a x * cf b (k + 1 - x)) k + cf a k * cf b (k + 1 - k) + cf a (k + 1) * cf b (k + 1 - (k + 1)) = _
    rw [sm_zero fun x hx => by rw [hb _ (by omega), Rat.mul_zero], if_neg (by omega), show k + 1 - k = 1 by omega, Nat.sub_self, Nat.add_sub_cancel, Rat.zero_add, Rat.add_comm]
theorem cf_pair (s t : Rat) (k : Nat) : cf (stripQ [s, t]) k = if k = 0 then s else if k = 1 then t else 0 := by
  rw [cf_stripQ]
  match k with
  | 0 => rfl
  | 1 => rfl
  | k + 2 => rw [if_neg (by omega), if_neg (by omega), cf_ge (by simp)]
theorem cf_one (c : Rat) (k : Nat) : cf (stripQ [c]) k = if k = 0 then c else 0 := by
  rw [cf_stripQ]
  match k with
  | 0 => rfl
  | k + 1 => rw [if_neg (by omega), cf_ge (by simp)]
theorem cf_mvl (s t c : Rat) (l : List Rat) (i : Nat) : cf (mvl s t (c :: l)) i = cf (mvl s t l) i * s + (if i = 0 then 0 else cf (mvl s t l) (i - 1) * t) + if i = 0 then c else 0 := by
  show cf (stripQ _) i = _
  rw [cf_stripQ, cf_padd, cf_stripQ, cf_pmul, pc_line (fun k hk => by rw [cf_pair, if_neg (by omega), if_neg (by omega)]), cf_pair, cf_pair, cf_one, if_pos rfl]
  rfl
theorem fr_mvl {M N B L W : Nat} {s t : Rat} (hB : B ≤ W) (hL : 2 * L ≤ W) (hs : Fr B L s) (ht : Fr B L t) : ∀ {a : List Rat}, (∀ x ∈ a, Fr M N x) → ∀ i, Fr (M * B ^ a.length) (N * (a.length * W ^ a.length)) (cf (mvl s t a) i)
  | [], _, i => Fr.zero _ _
  | c :: l, h, i => by
    have ih := fr_mvl hB hL hs ht (a := l) fun x hx => h x (List.mem_cons_of_mem _ hx)
    have hc := h c (List.mem_cons_self ..)
    rw [cf_mvl]
    show Fr (M * B ^ (l.length + 1)) (N * ((l.length + 1) * W ^ (l.length + 1))) _
    have h1 := (ih i).mul hs
    have h2 : Fr (M * B ^ l.length * B) (N * (l.length * W ^ l.length) * L) (if i = 0 then 0 else cf (mvl s t l) (i - 1) * t) := by
      split
      · exact Fr.zero _ _
      · exact (ih (i - 1)).mul ht
    have h3 : Fr (M * B ^ (l.length + 1)) (N * B ^ (l.length + 1)) (if i = 0 then c else 0) := by
      split
      · exact hc.scale _
      · exact Fr.zero _ _
    rw [Nat.mul_assoc, ← Nat.pow_succ] at h1 h2
    refine ((h1.add h2).add h3).le ?_
    have e1 : N * (l.length * W ^ l.length) * L + N * (l.length * W ^ l.length) * L ≤ N * (l.length * W ^ (l.length + 1)) := by
      have e : N * (l.length * W ^ l.length) * L + N * (l.length * W ^ l.length) * L = N * (l.length * W ^ l.length) * (2 * L) := by rw [← Nat.mul_add, Nat.two_mul]
      rw [e, Nat.mul_assoc, Nat.mul_assoc, Nat.pow_succ]
      exact Nat.mul_le_mul_left _ (Nat.mul_le_mul_left _ (Nat.mul_le_mul_left _ hL))
    have e2 : N * B ^ (l.length + 1) ≤ N * W ^ (l.length + 1) := Nat.mul_le_mul_left _ (Nat.pow_le_pow_left hB _)
    have e3 : N * ((l.length + 1) * W ^ (l.length + 1)) = N * (l.length * W ^ (l.length + 1)) + N * W ^ (l.length + 1) := by rw [Nat.succ_mul, Nat.mul_add]
    omega
def spLPMv : Sp := fun vs H Q _ => ∃ (l1 r1 r2 : Addr) (a : List Rat) (s t : Rat) (M N B L W : Nat), vs = [.ref l1, .ref r1, .ref r2] ∧ RL H l1 a ∧ TR H r1 s ∧ TR H r2 t ∧ a.length ≤ 30 ∧ (∀ i, Fr M N (cf a i)) ∧ Fr B L s ∧ Fr B L t ∧ 0 < M ∧ 0 < N ∧ 0 < B ∧ 0 < L ∧ B ≤ W ∧ 2 * L ≤ W ∧
  M * W ^ (a.length + 1) < 2 ^ 1800 ∧ N * ((a.length + 1) * W ^ (a.length + 1)) < 2 ^ 1800 ∧ ∀ (l : Addr) (H' : Hp), Same H H' → RL H' l (mvl s t a) → Q (.ref l) H'
section
variable {P : Program} {w : World} {K : PySem.W.Frag} {mg : Str → Option Value} {base : Heap} {CN : Addr}
abbrev sLPAt : Stmt := topS 47
abbrev sLPSlope : Stmt := topS 48
abbrev sLPMoved : Stmt := topS 49
theorem pow_le_W {B W j n : Nat} (hB : B ≤ W) (h0 : 0 < B) (hj : j ≤ n) : B ^ j ≤ W ^ n := Nat.le_trans (Nat.pow_le_pow_left hB j) (Nat.pow_le_pow_right (by omega) hj)
theorem scLPAt : FnScope ["_law_one", "_law_point", "_law_total", "_law_number"] ["_law_one", "_law_point"] (defScope sLPAt) := ⟨rfl, rfl, rfl, by decide +kernel, rfl, by decide +kernel, by decide +kernel⟩
theorem ok_lpat {f : Addr} {fd : FuncData} (F : Fun K "_law_p_at" "_law_p_at" sLPAt f fd) (Gplus : Df P w K mg base "_law_plus" 3 ["_law_one", "_law_two"] (spL2 rAdd)) (Gtimes : Df P w K mg base "_law_times" 3 ["_law_one", "_law_two"] (spL2 rMul)) :
    FnOk P w K mg base CX0 4 f fd ["_law_one", "_law_point"] spLPA := by
  refine F.ok scLPAt (fun vs H Q E h => ?_) (fun cdv A outer s H vs Q E hr h => ?_)
  · obtain ⟨l1, r, a, x, M, N, B, L, W, rfl, _⟩ := h
    rfl
  · obtain ⟨l1, r, a, x, M, N, B, L, W, rfl, ⟨as, e1, t1⟩, rx, fa, fx, hM, hB0, hB, hL, z1, z2, z3, q⟩ := h
    refine ⟨_, (pss_cons (ps_set (i := 2) scLPAt.nd rfl (Or.inl rfl) (pe_tup (pa_cons pe_int (pa_cons pe_int pa_nil))))
  (pss_cons (ps_for PassesOwn.never rfl (pi_list (pe_revL (pv 0))) (pg_name (i := 3) scLPAt.nd rfl (Or.inl rfl))
    (pss_one (ps_set (i := 2) scLPAt.nd rfl (Or.inl rfl) (pe_call Gplus.ok (hr.mono (by decide)) rfl Gplus.m Gplus.kp Gplus.b .nil pass0 (pa_cons (pe_call Gtimes.ok (hr.mono (by decide)) rfl Gtimes.m Gtimes.kp Gtimes.b .nil pass0 (pa_cons (pv 2) (pa_cons (pv 1) pa_nil))) (pa_cons (pv 3) pa_nil))))))
  (pss_one (ps_ret (pv 2))))), ?_⟩
    have n1 := t1.lenQ
    refine ⟨(by show 2 ≤ sizeLine; decide), fun t0 nt0 => ?_⟩
    have et0 : upd H t0 (HO.tup [V.int 0, V.int 1]) t0 = some (HO.tup [V.int 0, V.int 1]) := upd_same
    have s1 : Same H (upd H t0 (HO.tup [V.int 0, V.int 1])) := same_upd nt0
    generalize upd H t0 (HO.tup [V.int 0, V.int 1]) = H1 at et0 s1 ⊢
    refine ⟨_, rfl, l1, _, rfl, SqL.of (s1 _ _ e1), fun lr nlr => ?_⟩
    have elr : upd H1 lr (HO.lst (as.map V.ref).reverse) lr = some (HO.lst (as.map V.ref).reverse) := upd_same
    have s2 : Same H1 (upd H1 lr (HO.lst (as.map V.ref).reverse)) := same_upd nlr
    generalize upd H1 lr (HO.lst (as.map V.ref).reverse) = H2 at elr s2 ⊢
    have s12 := s1.trans s2
    have frj : ∀ j, j ≤ a.length → Fr (M * B ^ j) (N * (j * W ^ j)) (hor x (a.drop (a.length - j))) := fun j => by
      induction j with
      | zero =>
        intro _
        rw [Nat.sub_zero, List.drop_length]
        exact Fr.zero _ _
      | succ j ih =>
        intro hj
        rw [hor_step (by omega)]
        exact fr_hor hB hL (ih (by omega)) fx (fa _)
    have bM : ∀ j, j ≤ a.length + 1 → M * B ^ j < 2 ^ 1900 := fun j hj => Nat.lt_of_le_of_lt (Nat.mul_le_mul_left _ (pow_le_W hB hB0 hj)) z1
    have W0 : 0 < W := by omega
    have bN : ∀ j, j ≤ a.length + 1 → N * (j * W ^ j) < 2 ^ 1900 := fun j hj => Nat.lt_of_le_of_lt (Nat.mul_le_mul_left _ (Nat.mul_le_mul hj (Nat.pow_le_pow_right W0 hj))) z2
    have sx : Sr x := fx.sr hB0 (by
      have h1 := bM 1 (by omega)
      rw [Nat.pow_one] at h1
      have := Nat.le_mul_of_pos_left B hM
      omega) z3
    have sa : SrL a := fun i => (fa i).sr hM (by have h1 := bM 0 (by omega); rw [Nat.pow_zero, Nat.mul_one] at h1; exact h1) (by
      have h1 : N * 1 ≤ N * ((a.length + 1) * W ^ (a.length + 1)) := Nat.mul_le_mul_left _ (Nat.mul_pos (by omega) (Nat.pow_pos W0))
      omega)
    have bNL : ∀ j, j ≤ a.length → N * (j * W ^ j) * L < 2 ^ 1900 := fun j hj => by
      have e1 : N * (j * W ^ j) * L ≤ N * ((a.length + 1) * W ^ (a.length + 1)) := by
        rw [Nat.mul_assoc, Nat.mul_assoc]
        refine Nat.mul_le_mul_left _ (Nat.mul_le_mul (by omega) ?_)
        have : W ^ j * L ≤ W ^ j * W := Nat.mul_le_mul_left _ hL
        rw [← Nat.pow_succ] at this
        exact Nat.le_trans this (Nat.pow_le_pow_right W0 (by omega))
      omega
    refine ⟨lr, rfl, ⟨_, SqL.of elr⟩, for_list (K := K) (a := lr) (xs := (as.map V.ref).reverse) (fun j σ H' => ∃ r2 v3, σ = [some (.ref l1), some (.ref r), some (.ref r2), v3] ∧ Same H2 H' ∧ TR H' r2 (hor x (a.drop (a.length - j)))) ⟨t0, none, rfl, Same.refl _, ?_⟩ (fun j σ H' _ ⟨_, _, _, ss, _⟩ => SqL.of (ss _ _ elr)) ?_ ?_⟩
    · rw [Nat.sub_zero, List.drop_length]
      exact s2 _ _ et0
    · rintro j y σ H3 hj ⟨r2, v3, rfl, s3, t3⟩
      obtain ⟨ry, rfl⟩ : ∃ ry, y = V.ref ry := by
        obtain ⟨b, hb, e⟩ := List.mem_map.mp (List.mem_reverse.mp (List.mem_of_getElem? hj))
        exact ⟨b, e.symm⟩
      obtain ⟨g1, hjl⟩ := rev_at n1 hj
      obtain ⟨qy, g2, g3⟩ := t1.atQ g1
      have cy : qy = cf a (a.length - 1 - j) := (cf_get g2).symm
      have hf := frj j (by omega)
      refine ⟨_, rfl, _, rfl, r2, r, _, x, rfl, t3, rx.same (s12.trans s3), hf.sr (Nat.mul_pos hM (Nat.pow_pos hB0)) (bM j (by omega)) (bN j (by omega)), sx, fun r4 H4 s4 nr4 er4 => ?_⟩
      have hfm := hf.mul fx
      refine ⟨_, rfl, r4, ry, _, qy, rfl, er4, g3.same (s12.trans (s3.trans s4)), hfm.sr (Nat.mul_pos (Nat.mul_pos hM (Nat.pow_pos hB0)) hB0) (by rw [Nat.mul_assoc, ← Nat.pow_succ]; exact bM (j + 1) (by omega)) (bNL j (by omega)), (by rw [cy]; exact sa _), fun r5 H5 s5 nr5 er5 => ?_⟩
      refine ⟨r5, _, rfl, s3.trans (s4.trans s5), ?_⟩
      rw [hor_step hjl, ← cy]
      exact er5
    · rintro σ H3 ⟨r2, v3, rfl, s3, t3⟩
      refine ⟨_, rfl, q r2 H3 (s12.trans s3) ?_⟩
      rw [List.length_reverse, List.length_map, n1, Nat.sub_self, List.drop_zero] at t3
      exact t3
theorem sr_nat {k : Nat} (h : k ≤ 1000) : Sr ((k : Nat) : Rat) := ⟨by rw [Rat.num_natCast, Int.natAbs_natCast]; exact Nat.lt_of_le_of_lt h (Nat.lt_of_lt_of_le (show 1000 < 2 ^ 10 by decide) (Nat.pow_le_pow_right (by decide) (by decide))), by rw [Rat.den_natCast]; exact Nat.one_lt_pow (by decide) (by decide)⟩
theorem scLPSlope : FnScope ["_law_one", "_law_k"] ["_law_one"] (defScope sLPSlope) := ⟨rfl, rfl, rfl, by decide +kernel, rfl, by decide +kernel, by decide +kernel⟩
theorem ok_lpslope {f : Addr} {fd : FuncData} (F : Fun K "_law_p_slope" "_law_p_slope" sLPSlope f fd) (T : Bk mg) (Gpoly : Df P w K mg base "_law_poly" 1 ["_law_numbers"] (spLPoly K)) (Gtimes : Df P w K mg base "_law_times" 3 ["_law_one", "_law_two"] (spL2 rMul)) :
    FnOk P w K mg base CX0 4 f fd ["_law_one"] spLPSl := by
  refine F.ok scLPSlope (fun vs H Q E h => ?_) (fun cdv A outer s H vs Q E hr h => ?_)
  · obtain ⟨l1, a, rfl, _⟩ := h
    rfl
  · obtain ⟨l1, a, rfl, ⟨as, e1, t1⟩, la, sa, q⟩ := h
    refine ⟨_, (pss_one (ps_ret (pe_call Gpoly.ok (hr.mono (by decide)) rfl Gpoly.m Gpoly.kp Gpoly.b .nil pass0 (pa_cons (pe_lc (own := [("_law_k", 1)]) (g := gName 1) (tt := tYes) rfl scLPSlope.nd (pi_range2 (by rfl) T.range (pa_cons pe_int (pa_cons (pe_callB call_len_seq (by rfl) T.len (by decide +kernel) (pa_cons (pv 0) pa_nil)) pa_nil))) (blkOk_by (N := ["_law_one", "_law_k"]) (sc := defScope sLPSlope) (by decide +kernel)) (fun _ _ _ _ _ => pg_name (i := 1) scLPSlope.nd rfl (Or.inl rfl)) (fun _ _ _ _ _ => pts_nil) (fun _ _ _ _ _ => (pe_call Gtimes.ok (hr.mono (by decide)) rfl Gtimes.m Gtimes.kp Gtimes.b .nil pass0 (pa_cons (pe_ix (r := rIxL K) ix_list (pv 0) (pv 1) (fun _ _ => rfl)) (pa_cons (pe_tup (pa_cons (pv 1) (pa_cons pe_int pa_nil))) pa_nil))))) pa_nil)))), ?_⟩
    have n1 := t1.lenQ
    refine ⟨_, rfl, l1, _, rfl, .inl (SqL.of e1), ?_⟩
    rw [List.length_map, n1]
    refine ⟨_, _, rfl, ⟨by omega, by omega, by omega, by omega⟩, fun D hD => lc_range (lo := 1) (n := ((a.length : Nat) - 1 : Int).toNat) (fun i H' => Same H H' ∧ ∃ zs, H' D = some (.lst (zs.map V.ref)) ∧ Tups H' zs ((tab i fun j => cf a (j + 1) * ((j + 1 : Nat) : Rat)).map pq)) ⟨same_upd hD, [], upd_same, .nil⟩ ?_ ?_⟩
    · rintro i H' hi ⟨ss, zs, eD, tz⟩
      have hi : i + 1 < a.length := by omega
      obtain ⟨ra, g1, g2⟩ := t1.getQ hi
      have ga : (as.map V.ref)[i + 1]? = some (V.ref ra) := by rw [List.getElem?_map, g1]; rfl
      refine ⟨rfl, ?_⟩
      refine ⟨_, rfl, _, rfl, l1, _, _, .ref ra, rfl, rfl, SqL.of (ss _ _ e1), at_of (j := i + 1) (by omega) ga, _, rfl, (by show 2 ≤ sizeLine; decide), fun tk ntk => ?_⟩
      have etk : upd H' tk (HO.tup [V.int (1 + (i : Int)), V.int 1]) tk = some (HO.tup [V.int (1 + (i : Int)), V.int 1]) := upd_same
      have s2 : Same H' (upd H' tk (HO.tup [V.int (1 + (i : Int)), V.int 1])) := same_upd ntk
      generalize upd H' tk (HO.tup [V.int (1 + (i : Int)), V.int 1]) = H2 at etk s2 ⊢
      have trk : TR H2 tk ((i + 1 : Nat) : Rat) := by
        unfold TR
        rw [Rat.num_natCast, Rat.den_natCast, etk, show (1 + (i : Int)) = ((i + 1 : Nat) : Int) by omega]
        rfl
      refine ⟨ra, tk, _, _, rfl, (g2.same ss).same s2, trk, sa _, sr_nat (by omega), fun r' H'' s' nr er => ?_⟩
      have eD' := s' _ _ (s2 _ _ eD)
      refine ⟨_, eD', ?_, (fun b' o' e' => ?_), zs ++ [r'], ?_, ?_⟩
      · have := tz.lenQ
        rw [tab_len] at this
        rw [List.length_map, sizeLine_eq]
        omega
      · rw [upd_ne (ne_of_none e' hD)]
        exact s' _ _ (s2 _ _ (ss _ _ e'))
      · rw [upd_same, List.map_append]
        rfl
      · rw [tab_snoc]
        have up : ∀ (c : Addr) (p : Int × Int), H'' c = some (.tup [.int p.1, .int p.2]) → upd H'' D (.lst (zs.map V.ref ++ [V.ref r'])) c = some (.tup [.int p.1, .int p.2]) := fun c p z => by
          rw [upd_ne (ne_of z eD' (by intro z; cases z))]
          exact z
        exact Tups.snocQ (((tz.same s2).same s').imp up) (up _ (pq _) er)
    · rintro H' ⟨ss, zs, eD, tz⟩
      rw [show ((a.length : Nat) - 1 : Int).toNat = a.length - 1 by omega] at tz
      refine lpoly_q (E := E0) ⟨zs, eD, tz⟩ (by rw [tab_len]; omega) fun l' H'' s' r => q l' H'' (ss.trans s') r
theorem scLPMoved : FnScope ["_law_one", "_law_start", "_law_step", "_law_found", "_law_line", "_law_number"] ["_law_one", "_law_start", "_law_step"] (defScope sLPMoved) := ⟨rfl, rfl, rfl, by decide +kernel, rfl, by decide +kernel, by decide +kernel⟩
theorem ok_lpmoved {f : Addr} {fd : FuncData} (F : Fun K "_law_p_moved" "_law_p_moved" sLPMoved f fd) (Gpoly : Df P w K mg base "_law_poly" 1 ["_law_numbers"] (spLPoly K)) (Gpp : Df P w K mg base "_law_p_plus" 4 ["_law_one", "_law_two"] spLPP) (Gpt : Df P w K mg base "_law_p_times" 4 ["_law_one", "_law_two"] spLPT) :
    FnOk P w K mg base CX0 5 f fd ["_law_one", "_law_start", "_law_step"] spLPMv := by
  refine F.ok scLPMoved (fun vs H Q E h => ?_) (fun cdv A outer s0 H vs Q E hr h => ?_)
  · obtain ⟨l1, r1, r2, a, s, t, M, N, B, L, W, rfl, _⟩ := h
    rfl
  · obtain ⟨l1, r1, r2, a, s, t, M, N, B, L, W, rfl, ⟨as, e1, t1⟩, rs, rt, la, fa, fs, ft, hM, hN, hB0, hL0, hB, hL, z1, z2, q⟩ := h
    refine ⟨_, (pss_cons (ps_par (i := 3) (j := 4) (by rfl) scLPMoved.nd rfl rfl (by decide) rfl rfl (pa_cons (pe_lst pa_nil) (pa_cons (pe_call Gpoly.ok (hr.mono (by decide)) rfl Gpoly.m Gpoly.kp Gpoly.b .nil pass0 (pa_cons (pe_lst (pa_cons (pv 1) (pa_cons (pv 2) pa_nil))) pa_nil)) pa_nil)) (by rfl))
  (pss_cons (ps_for PassesOwn.never rfl (pi_list (pe_revL (pv 0))) (pg_name (i := 5) scLPMoved.nd rfl (Or.inl rfl))
    (pss_one (ps_set (i := 3) scLPMoved.nd rfl (Or.inl rfl) (pe_call Gpp.ok (hr.mono (by decide)) rfl Gpp.m Gpp.kp Gpp.b .nil pass0 (pa_cons (pe_call Gpt.ok (hr.mono (by decide)) rfl Gpt.m Gpt.kp Gpt.b .nil pass0 (pa_cons (pv 3) (pa_cons (pv 4) pa_nil))) (pa_cons (pe_call Gpoly.ok (hr.mono (by decide)) rfl Gpoly.m Gpoly.kp Gpoly.b .nil pass0 (pa_cons (pe_lst (pa_cons (pv 5) pa_nil)) pa_nil)) pa_nil))))))
  (pss_one (ps_ret (pv 3))))), ?_⟩
    have n1 := t1.lenQ
    refine ⟨(by show 0 ≤ sizeLine; decide), fun f0 nf0 => ?_⟩
    have ef0 : upd H f0 (HO.lst []) f0 = some (HO.lst []) := upd_same
    have s1 : Same H (upd H f0 (HO.lst [])) := same_upd nf0
    generalize upd H f0 (HO.lst []) = H1 at ef0 s1 ⊢
    refine ⟨_, rfl, _, rfl, (by show 2 ≤ sizeLine; decide), fun ll nll => ?_⟩
    have ell : upd H1 ll (HO.lst [V.ref r1, V.ref r2]) ll = some (HO.lst [V.ref r1, V.ref r2]) := upd_same
    have s2 : Same H1 (upd H1 ll (HO.lst [V.ref r1, V.ref r2])) := same_upd nll
    generalize upd H1 ll (HO.lst [V.ref r1, V.ref r2]) = H2 at ell s2 ⊢
    dsimp only [tNil, List.append_nil]
    refine lpoly_q (K := K) (E := E0) (qs := [s, t]) ⟨[r1, r2], ell, .cons ((rs.same s1).same s2) (.cons ((rt.same s1).same s2) .nil)⟩ (by show 2 ≤ 1000; decide) fun li H3 s3 rli => ?_
    refine ⟨_, _, rfl, ?_⟩
    have s13 : Same H H3 := s1.trans (s2.trans s3)
    refine ⟨_, rfl, l1, _, rfl, SqL.of (s13 _ _ e1), fun lr nlr => ?_⟩
    have elr : upd H3 lr (HO.lst (as.map V.ref).reverse) lr = some (HO.lst (as.map V.ref).reverse) := upd_same
    have s4 : Same H3 (upd H3 lr (HO.lst (as.map V.ref).reverse)) := same_upd nlr
    generalize upd H3 lr (HO.lst (as.map V.ref).reverse) = H4 at elr s4 ⊢
    have s14 := s13.trans s4
    have W0 : 0 < W := by omega
    have lt8 : (2 : Nat) ^ 1800 ≤ 2 ^ 1900 := Nat.pow_le_pow_right (by decide) (by decide)
    have frl : ∀ i, Fr B L (cf (stripQ [s, t]) i) := fun i => by
      rw [cf_pair]
      split
      · exact fs
      · split
        · exact ft
        · exact Fr.zero _ _
    have mem : ∀ x ∈ a, Fr M N x := fun x hx => by
      obtain ⟨i, h1, h2⟩ := List.getElem_of_mem hx
      have := fa i
      rw [cf_lt h1, h2] at this
      exact this
    have frj : ∀ j, j ≤ a.length → ∀ i, Fr (M * B ^ j) (N * (j * W ^ j)) (cf (mvl s t (a.drop (a.length - j))) i) := fun j hj i => by
      have := fr_mvl (M := M) (N := N) hB hL fs ft (a := a.drop (a.length - j)) (fun x hx => mem x (List.mem_of_mem_drop hx)) i
      rw [List.length_drop, show a.length - (a.length - j) = j by omega] at this
      exact this
    have bM : ∀ j, j ≤ a.length + 1 → M * B ^ j < 2 ^ 1800 := fun j hj => Nat.lt_of_le_of_lt (Nat.mul_le_mul_left _ (pow_le_W hB hB0 hj)) z1
    have bN : ∀ j, j ≤ a.length + 1 → N * (j * W ^ j) < 2 ^ 1800 := fun j hj => Nat.lt_of_le_of_lt (Nat.mul_le_mul_left _ (Nat.mul_le_mul hj (Nat.pow_le_pow_right W0 hj))) z2
    have sa : SrL a := fun i => (fa i).sr hM (by have h1 := bM 0 (by omega); rw [Nat.pow_zero, Nat.mul_one] at h1; omega) (by
      have h1 : N * 1 ≤ N * ((a.length + 1) * W ^ (a.length + 1)) := Nat.mul_le_mul_left _ (Nat.mul_pos (by omega) (Nat.pow_pos W0))
      omega)
    refine ⟨lr, rfl, ⟨_, SqL.of elr⟩, for_list (K := K) (a := lr) (xs := (as.map V.ref).reverse) (fun j σ H' => ∃ l3 v5, σ = [some (.ref l1), some (.ref r1), some (.ref r2), some (.ref l3), some (.ref li), v5] ∧ Same H4 H' ∧ RL H' l3 (mvl s t (a.drop (a.length - j)))) ⟨f0, none, rfl, Same.refl _, ?_⟩ (fun j σ H' _ ⟨_, _, _, ss, _⟩ => SqL.of (ss _ _ elr)) ?_ ?_⟩
    · rw [Nat.sub_zero, List.drop_length]
      exact ⟨[], s4 _ _ (s3 _ _ (s2 _ _ ef0)), .nil⟩
    · rintro j y σ H5 hj ⟨l3, v5, rfl, s5, t5⟩
      obtain ⟨ry, rfl⟩ : ∃ ry, y = V.ref ry := by
        obtain ⟨b, hb, e⟩ := List.mem_map.mp (List.mem_reverse.mp (List.mem_of_getElem? hj))
        exact ⟨b, e.symm⟩
      obtain ⟨g1, hjl⟩ := rev_at n1 hj
      obtain ⟨qy, g2, g3⟩ := t1.atQ g1
      have cy : qy = cf a (a.length - 1 - j) := (cf_get g2).symm
      have hlen := mvl_len s t (a.drop (a.length - j))
      rw [List.length_drop] at hlen
      have llen := stripQ_len [s, t]
      have ndj : 41 * (N * ((j + 1) * W ^ j) * L) < 2 ^ 1900 := by
        have h1 : N * ((j + 1) * W ^ j) * L ≤ N * ((a.length + 1) * W ^ (a.length + 1)) := by
          rw [Nat.mul_assoc, Nat.mul_assoc]
          refine Nat.mul_le_mul_left _ (Nat.mul_le_mul (by omega) ?_)
          have : W ^ j * L ≤ W ^ j * W := Nat.mul_le_mul_left _ (by omega)
          rw [← Nat.pow_succ] at this
          exact Nat.le_trans this (Nat.pow_le_pow_right W0 (by omega))
        have h2 : (41 : Nat) * 2 ^ 1800 ≤ 2 ^ 1900 := by
          have : (2 : Nat) ^ 1900 = 2 ^ 100 * 2 ^ 1800 := by rw [pow_add2]
          rw [this]
          exact Nat.mul_le_mul_right _ (by decide)
        omega
      refine ⟨_, rfl, _, rfl, l3, li, _, _, M * B ^ j, N * ((j + 1) * W ^ j), B, L, rfl, t5, rli.same (s4.trans s5), (by omega), (by simp only [List.length_cons, List.length_nil] at llen; omega), Nat.mul_pos hM (Nat.pow_pos hB0), hB0, Nat.mul_pos hN (Nat.mul_pos (by omega) (Nat.pow_pos W0)), hL0, (fun i => (frj j (by omega) i).le (Nat.mul_le_mul_left _ (Nat.mul_le_mul_right _ (by omega)))), frl, ?_, ndj, fun l6 H6 s6 r6 => ?_⟩
      · rw [Nat.mul_assoc, ← Nat.pow_succ]
        exact Nat.lt_of_lt_of_le (bM (j + 1) (by omega)) lt8
      refine ⟨_, rfl, (by show 1 ≤ sizeLine; decide), fun l7 nl7 => ?_⟩
      have el7 : upd H6 l7 (HO.lst [V.ref ry]) l7 = some (HO.lst [V.ref ry]) := upd_same
      have s7 : Same H6 (upd H6 l7 (HO.lst [V.ref ry])) := same_upd nl7
      generalize upd H6 l7 (HO.lst [V.ref ry]) = H7 at el7 s7 ⊢
      have g7 : TR H7 ry qy := (g3.same (s14.trans s5)).same (s6.trans s7)
      dsimp only [tNil, List.append_nil]
      refine lpoly_q (K := K) (E := E0) (qs := [qy]) ⟨[ry], el7, .cons g7 .nil⟩ (by show 1 ≤ 1000; decide) fun l8 H8 s8 r8 => ?_
      have h1 := stripQ_len (pmul (mvl s t (a.drop (a.length - j))) (stripQ [s, t]))
      have e2 : (pmul (mvl s t (a.drop (a.length - j))) (stripQ [s, t])).length = (mvl s t (a.drop (a.length - j))).length + (stripQ [s, t]).length - 1 := by unfold pmul; rw [tab_len]
      have h8 := stripQ_len [qy]
      simp only [List.length_cons, List.length_nil] at llen h8
      have frp : ∀ i, Fr (M * B ^ j * B) (2 * (N * (j * W ^ j) * L)) (pc (mvl s t (a.drop (a.length - j))) (stripQ [s, t]) i) := fun i => by
        rw [pc_line (fun k hk => by rw [cf_pair, if_neg (by omega), if_neg (by omega)]), Nat.two_mul]
        refine ((frj j (by omega) i).mul (frl 0)).add ?_
        split
        · exact Fr.zero _ _
        · exact (frj j (by omega) _).mul (frl 1)
      refine ⟨l6, l8, _, _, rfl, (r6.same s7).same s8, r8, (by omega), (by omega), (fun i => ?_), (fun i => ?_), fun l9 H9 s9 r9 => ?_⟩
      · rw [cf_stripQ, cf_pmul]
        refine (frp i).sr (Nat.mul_pos (Nat.mul_pos hM (Nat.pow_pos hB0)) hB0) (by rw [Nat.mul_assoc, ← Nat.pow_succ]; exact Nat.lt_of_lt_of_le (bM (j + 1) (by omega)) lt8) ?_
        have h3 : N * (j * W ^ j) * L ≤ N * ((j + 1) * W ^ j) * L := Nat.mul_le_mul_right _ (Nat.mul_le_mul_left _ (Nat.mul_le_mul_right _ (by omega)))
        omega
      · rw [cf_one]
        split
        · rw [cy]; exact sa _
        · exact sr_zero
      refine ⟨l9, _, rfl, s5.trans (s6.trans (s7.trans (s8.trans s9))), ?_⟩
      have ed : a.drop (a.length - (j + 1)) = qy :: a.drop (a.length - j) := by
        have h1 : a.length - (j + 1) < a.length := by omega
        rw [List.drop_eq_getElem_cons h1, show a.length - (j + 1) + 1 = a.length - j by omega]
        congr 1
        rw [cy, cf_lt (show a.length - 1 - j < a.length by omega)]
        congr 1
        omega
      rw [ed]
      exact r9
    · rintro σ H5 ⟨l3, v5, rfl, s5, t5⟩
      refine ⟨_, rfl, q l3 H5 (s14.trans s5) ?_⟩
      rw [List.length_reverse, List.length_map, n1, Nat.sub_self, List.drop_zero] at t5
      exact t5
end
end Vf

set_option maxRecDepth 100000
set_option maxHeartbeats 8000000
namespace Vf
open PySem PySem.Spec PyProof.Rows L2
/-! ### the class of polynomials -/
/-- the class, as the written part tells it -/
structure PoC (K : PySem.W.Frag) (mg : Str → Option Value) (CP : Addr) : Prop where
  m : mg "Poly" = some (.ref CP)
  cl : Cls K CP
  nf : NoAttr K CP "numbers"
  ca : PySem.W.findIn K (.ref CP) "__class__" = some (some (.builtin "object.__class__"))
  cn : PySem.W.specialIn K (.builtin "object.__class__") "__get__" = some (some (.builtin "getset_descriptor.__get__"))
  ct : PySem.W.takesIn K (.builtin "object.__class__") = some true
  cm : PySem.W.mroIn K CP (.type "object") = some true
  no : ∀ d : PyData, PySem.W.kitOne K (.type (tyD d)) (.ref CP) = some false
  fs : PySem.W.notFirst K CP (.ref CP) = true
  fd : ∀ d : PyData, PySem.W.notFirst K CP (.type (tyD d)) = true
theorem PoC.io {K : PySem.W.Frag} {mg : Str → Option Value} {CP : Addr} (_ : PoC K mg CP) : PySem.W.kitOne K (.ref CP) (.ref CP) = some true := by
  unfold PySem.W.kitOne
  rw [if_pos (by simp)]
/-- a polynomial with these numbers stands at a -/
def PolyAt (K : PySem.W.Frag) (CP : Addr) (H : Hp) (a : Addr) (rs : List (Int × Int)) : Prop := ∃ dx q as, H a = some (.ins CP dx [("numbers", .ref q)]) ∧ H q = some (.tup (as.map V.ref)) ∧ Tups H as rs
theorem PolyAt.imp {K : PySem.W.Frag} {CP : Addr} {H H' : Hp} {a : Addr} {rs : List (Int × Int)} (h : PolyAt K CP H a rs) (e : ∀ b o, H b = some o → ((∃ fs dx, o = .ins CP dx fs) ∨ ∃ xs, o = .tup xs) → H' b = some o) : PolyAt K CP H' a rs := by
  obtain ⟨dx, q, as, h1, h2, h3⟩ := h
  exact ⟨dx, q, as, e _ _ h1 (.inl ⟨_, _, rfl⟩), e _ _ h2 (.inr ⟨_, rfl⟩), h3.imp fun a p z => e _ _ z (.inr ⟨_, rfl⟩)⟩
theorem PolyAt.same {K : PySem.W.Frag} {CP : Addr} {H H' : Hp} {a : Addr} {rs : List (Int × Int)} (h : PolyAt K CP H a rs) (s : Same H H') : PolyAt K CP H' a rs := h.imp fun b o e _ => s b o e
theorem PolyAt.n {K : PySem.W.Frag} {CP : Addr} {H H' : Hp} {a : Addr} {rs : List (Int × Int)} (h : PolyAt K CP H a rs) (s : LamX.ExtN H H') : PolyAt K CP H' a rs := h.imp fun b o e t => s b o e (fun ps z => by
  rcases t with ⟨_, _, t⟩ | ⟨_, t⟩ <;> rw [t] at z <;> cases z)
theorem PolyAt.kp {K : PySem.W.Frag} {CP : Addr} {H H' : Hp} {a p l : Addr} {B : Int} {rs : List (Int × Int)} (h : PolyAt K CP H a rs) (hP : Pen H p l B) (s : Kp p H H') : PolyAt K CP H' a rs := by
  obtain ⟨ns, a0, d0, c0, f0, g1, _⟩ := hP
  refine h.imp fun b o e t => s b o (fun z => ?_) e
  rw [z, g1.1] at e
  cases e
  rcases t with ⟨_, _, t⟩ | ⟨_, t⟩ <;> cases t
theorem PolyAt.ty {K : PySem.W.Frag} {mg : Str → Option Value} {CP : Addr} {H : Hp} {a : Addr} {rs : List (Int × Int)} (C : PoC K mg CP) (h : PolyAt K CP H a rs) : TyX K H (.ref a) (.ref CP) := by
  obtain ⟨dx, q, as, h1, _⟩ := h
  exact .base (.ins h1 C.cl C.ca C.cn C.ct C.cm)
/-- a row of ratios, as data -/
def rowD : PyData → Option (List (Int × Int))
  | .list ds => ds.mapM partsD
  | .tuple ds => ds.mapM partsD
  | _ => none
theorem rowD_seq {d : PyData} {ds : List PyData} (h : seqD d = some ds) : rowD d = ds.mapM partsD := by
  cases d <;> first | (cases h; rfl) | cases h
theorem rowD_none {d : PyData} (h : seqD d = none) : rowD d = none := by
  cases d <;> first | rfl | cases h
theorem mapM_some : ∀ {ds : List PyData} {ps : List (Int × Int)}, ds.mapM partsD = some ps → ds.length = ps.length ∧ ∀ (i : Nat) (d : PyData), ds[i]? = some d → ∃ p, ps[i]? = some p ∧ partsD d = some p
  | [], ps, h => by
    rw [List.mapM_nil] at h
    cases h
    exact ⟨rfl, fun i d e => by simp at e⟩
  | d0 :: ds, ps, h => by
    rw [List.mapM_cons] at h
    cases e0 : partsD d0 with
    | none => rw [e0] at h; cases h
    | some p0 =>
      rw [e0] at h
      cases e1 : ds.mapM partsD with
      | none => rw [e1] at h; cases h
      | some ps1 =>
        rw [e1] at h
        cases h
        obtain ⟨h1, h2⟩ := mapM_some e1
        refine ⟨by simp [h1], fun i d e => ?_⟩
        cases i with
        | zero =>
          simp at e
          subst e
          exact ⟨p0, rfl, e0⟩
        | succ i => simpa using h2 i d (by simpa using e)
theorem mapM_all : ∀ ds : List PyData, (ds.map fun d => (partsD d).isSome).all id = (ds.mapM partsD).isSome
  | [] => by rw [List.mapM_nil]; rfl
  | d :: ds => by
    rw [List.mapM_cons, List.map_cons, List.all_cons, mapM_all ds]
    cases partsD d with
    | none => rfl
    | some p =>
      cases ds.mapM partsD <;> rfl
def spIsRow (K : PySem.W.Frag) : Sp := fun vs H Q _ => ∃ (v : V) (d : PyData), vs = [v] ∧ Dt K H v d ∧ (∀ ds, seqD d = some ds → ds.length ≤ 1000) ∧ ∀ H', Same H H' → Q (.bl (rowD d).isSome) H'
/-- an error of BadRow -/
def RaisesR (CR : Addr) (H : Hp) (v : V) (E : XK) : Prop := ∀ (d : Addr) (H' : Hp), Same H H' → H d = none → H' d = some (.xd (fl ["row"] [v])) → E (.ref CR) (some d) H'
theorem RaisesR.same {CR : Addr} {H H1 : Hp} {v : V} {E : XK} (s : Same H H1) (h : RaisesR CR H v E) : RaisesR CR H1 v E := fun d H' s' n e => h d H' (s.trans s') (s.free n) e
/-- the numbers of a row, in lowest terms -/
def lowP (p : Int × Int) : Int × Int := low p.1 p.2
/-- a Poly is made of a value -/
def spPolyI (K : PySem.W.Frag) (CP CR : Addr) : Sp := fun vs H Q E => ∃ (x dx : Addr) (v : V) (d : PyData), vs = [.ref x, v] ∧ H x = some (.ins CP dx []) ∧ Dt K H v d ∧ (∀ ds, seqD d = some ds → ds.length ≤ 1000) ∧
  (∀ ps, rowD d = some ps → (∀ p ∈ ps, p.2.natAbs < 2 ^ big) ∧ ∀ H', Kp x H H' → PolyAt K CP H' x (strip (ps.map lowP)) → Q .non H') ∧ (rowD d = none → RaisesR CR H v E)
/-- what the call Poly(v) comes to -/
theorem poly_made {K : PySem.W.Frag} {CP CR : Addr} {H : Hp} {v : V} {d : PyData} {Qd : Addr → Hp → Prop} {E : XK} (hd : Dt K H v d) (hl : ∀ ds, seqD d = some ds → ds.length ≤ 1000)
    (k : ∀ ps, rowD d = some ps → (∀ p ∈ ps, p.2.natAbs < 2 ^ big) ∧ ∀ (x : Addr) (H' : Hp), Same H H' → H x = none → PolyAt K CP H' x (strip (ps.map lowP)) → Qd x H') (r : rowD d = none → RaisesR CR H v E) :
    ∀ x dx, H x = none → H dx = none → dx ≠ x → spPolyI K CP CR (.ref x :: ([v] ++ [])) (upd (upd H dx (.own x)) x (.ins CP dx [])) (fun w H2 => w = .non ∧ Qd x H2) E := by
  intro x dx nx nd ne
  have s1 : Same H (upd (upd H dx (.own x)) x (.ins CP dx [])) := (same_upd nd).trans (same_upd (by rw [upd_ne (Ne.symm ne)]; exact nx))
  refine ⟨x, dx, v, d, rfl, upd_same, hd.mono s1, hl, fun ps hp => ?_, fun hn => (r hn).same s1⟩
  obtain ⟨k1, k2⟩ := k ps hp
  refine ⟨k1, fun H' kp hP => ⟨rfl, k2 x H' (fun b o e => kp b o (ne_of_none e nx) (s1 _ _ e)) nx hP⟩⟩
section
variable {P : Program} {w : World} {K : PySem.W.Frag} {mg : Str → Option Value} {base : Heap} {CP CR CN : Addr}
abbrev sIsRow : Stmt := topS 17
abbrev sPolyI : Stmt := inClass (topS 24) 0
abbrev sPolyE : Stmt := inClass (topS 24) 1
abbrev sPolyD : Stmt := inClass (topS 24) 9
theorem scIsRow : FnScope ["value", "item"] ["value"] (defScope sIsRow) := ⟨rfl, rfl, rfl, by decide +kernel, rfl, by decide +kernel, by decide +kernel⟩
theorem map_take_snoc {α β : Type} {l : List α} {f : α → β} {i : Nat} {x : α} (h : l[i]? = some x) : (l.take i).map f ++ [f x] = (l.take (i + 1)).map f := by
  rw [List.take_succ, h, List.map_append]
  rfl
theorem ok_is_row {f : Addr} {fd : FuncData} (F : Fun K "is_ratio_row" "is_ratio_row" sIsRow f fd) (T : Bk mg) (hall : mg "all" = none) (Gr : Df P w K mg base "is_ratio" 2 ["value"] (spIsRatio K)) : FnOk P w K mg base CX0 3 f fd ["value"] (spIsRow K) := by
  refine F.ok scIsRow (fun vs H Q E h => ?_) (fun cdv A outer s H vs Q E hr h => ?_)
  · obtain ⟨v, d, rfl, _⟩ := h
    rfl
  · obtain ⟨v, d, rfl, hd, hlen, q⟩ := h
    refine ⟨_, (pss_one (ps_ret (pe_and (pe_callB call_isiT (by rfl) T.isinstance (by decide +kernel) (pa_cons (pv 0) (pa_cons (pe_tup (pa_cons (pe_bltn (v := V.ty "tuple") (by rfl) T.tuple (by decide +kernel) rfl) (pa_cons (pe_bltn (v := V.ty "list") (by rfl) T.list (by decide +kernel) rfl) pa_nil))) pa_nil)))
      (pe_one (pe_callB (cr_all rfl) (by rfl) hall (by decide +kernel) (pa_cons (pe_lc (own := [("item", 1)]) (g := gName 1) (tt := tYes) rfl scIsRow.nd (pi_seq (pv 0)) (blkOk_by (N := ["value", "item"]) (sc := defScope sIsRow) (by decide +kernel)) (fun _ _ _ _ _ => pg_name (i := 1) scIsRow.nd rfl (Or.inl rfl)) (fun _ _ _ _ _ => pts_nil)
        (fun _ _ _ _ _ => pe_call Gr.ok hr rfl Gr.m Gr.kp Gr.b .nil pass0 (pa_cons (pv 1) pa_nil))) pa_nil)))))), ?_⟩
    refine ⟨_, rfl, (by show 2 ≤ sizeLine; decide), fun tp ntp => ?_⟩
    have s1 : Same H (upd H tp (HO.tup [V.ty "tuple", V.ty "list"])) := same_upd ntp
    have e1 : upd H tp (HO.tup [V.ty "tuple", V.ty "list"]) tp = some (HO.tup [V.ty "tuple", V.ty "list"]) := upd_same
    generalize upd H tp (HO.tup [V.ty "tuple", V.ty "list"]) = H1 at s1 e1 ⊢
    have hd1 := hd.mono s1
    refine ⟨v, tp, _, _, [.type "tuple", .type "list"], _, rfl, e1, .cons (.ty _) (.cons (.ty _) .nil), hd1.ty, kit_seq d, _, rfl, ?_⟩
    cases hs : seqD d with
    | none =>
      refine iteF ?_
      have z := q H1 s1
      rw [rowD_none hs] at z
      exact z
    | some ds =>
      refine iteT ?_
      obtain ⟨a, xs, rfl, hsq, hds⟩ := hd1.seq hs
      have hl := hds.len
      have hl2 := hlen ds hs
      refine ⟨_, rfl, a, rfl, lc_seq (xs := xs) hsq (fun D i H2 => Same H1 H2 ∧ H2 D = some (.lst ((ds.take i).map fun d => V.bl (partsD d).isSome))) ?_ ?_ ?_ ?_⟩
      · intro D hD
        exact ⟨same_upd hD, upd_same⟩
      · intro D i H2 hD ⟨s2, _⟩
        exact ⟨same_sqL s2, same_sqT s2⟩
      · intro D i x H2 hD hi ⟨s2, e2⟩
        obtain ⟨di, h1, h2⟩ := hds.at hi
        refine ⟨rfl, ?_⟩
        refine ⟨_, rfl, x, di, rfl, h2.mono s2, fun H3 s3 => ?_⟩
        refine ⟨_, s3 _ _ e2, ?_, (fun b o e => ?_), ?_⟩
        · rw [List.length_map, List.length_take, sizeLine_eq]
          omega
        · rw [upd_ne (ne_of_none e hD)]
          exact s3 _ _ (s2 _ _ e)
        · rw [upd_same, map_take_snoc h1]
      · intro D H2 hD ⟨s2, e2⟩
        refine ⟨D, ds.map fun d => (partsD d).isSome, rfl, ?_, ?_⟩
        · rw [List.map_map]
          refine SqL.of ?_
          rw [e2, hl, List.take_length]
          rfl
        · rw [mapM_all]
          have z := q H2 (s1.trans s2)
          rw [rowD_seq hs] at z
          exact z
theorem scPolyI : FnScope ["self", "numbers", "row", "number"] ["self", "numbers"] (defScope sPolyI) := ⟨rfl, rfl, rfl, by decide +kernel, rfl, by decide +kernel, by decide +kernel⟩
theorem ok_poly_init {f : Addr} {fd : FuncData} (F : Fun K "__init__" "Poly.__init__" sPolyI f fd) (T : Bk mg) (C : PoC K mg CP) (N : Ex P w K mg base "BadRow" CR ["row"]) (Gi : Df P w K mg base "is_ratio_row" 3 ["value"] (spIsRow K)) (Gt : Dx P w K mg base "told" 4 ["value", "what"] (spTold K CN)) :
    FnOk P w K mg base (L2.CX P w) 5 f fd ["self", "numbers"] (spPolyI K CP CR) := by
  refine F.okX scPolyI (fun vs H Q E h => ?_) (fun cdv A outer s H vs Q E hr h => ?_)
  · obtain ⟨x, dx, v, d, rfl, _⟩ := h
    rfl
  · obtain ⟨x, dx, v, d, rfl, hx, hd, hlen, q, e⟩ := h
    refine ⟨_, (pss_cons (ps_if (pt_not (pt_val (pe_call Gi.ok (hr.mono (by decide)) rfl Gi.m Gi.kp Gi.b .nil pass0 (pa_cons (pv 1) pa_nil))))
        (pss_one (ps_raise rfl (takes_of rfl rfl rfl rfl) (pmk_oex N.ox N.iC N.tI N.ok (hr.mono (by decide)) N.b .nil pass0 (by rfl) N.m (pa_cons (pv 1) pa_nil))))
        pss_nil)
      (PSs.nox (pss_cons (ps_setLc (i := 2) (own := [("number", 3)]) (g := gName 3) (tt := tYes) rfl scPolyI.nd rfl rfl (sw_true rfl rfl rfl (by decide +kernel)) (pi_seq (pv 1)) (blkOk_by (N := ["self", "numbers", "row", "number"]) (sc := defScope sPolyI) (by decide +kernel)) (fun _ _ _ _ _ => pg_name (i := 3) scPolyI.nd rfl (Or.inl rfl)) (fun _ _ _ _ _ => pts_nil)
          (fun _ _ _ _ _ => pe_call Gt.ok hr rfl Gt.m Gt.kp Gt.b .nil passL (pa_cons (pv 3) (pa_cons pe_str pa_nil))))
      (pss_cons (ps_while PassesOwn.never (PW.pt (pw_and (pt_truth (pv 2) (by intro _; rfl)) (pw_and1 (pt_cmpR op_eq (pe_ix ix_tup (pe_ix ix_list (pv 2) (pe_un un_neg pe_int) (fun _ _ => rfl)) pe_int (fun _ _ => rfl)) pe_int (nomark _)))))
        (pss_one (ps_expr (pe_bm0 PySem.F.plainAttrs_list PySem.F.slot_list_pop PySem.F.type_list_pop mt_pop (pv 2)))))
      (pss_one (ps_fld (pv 0) (pe_callTy call_tuple_of (by rfl) T.tuple (by decide +kernel) (pa_cons (pv 2) pa_nil)) rfl)))))), ?_⟩
    refine ⟨_, rfl, v, d, rfl, hd, hlen, fun H1 s1 => ⟨_, rfl, ?_⟩⟩
    have hd1 := hd.mono s1
    cases hp : rowD d with
    | none =>
      refine iteT ?_
      refine ⟨_, rfl, (by show 1 ≤ 1000; decide), ?_⟩
      exact raise_end rfl fun dd H' s2 n e2 => (e hp).same s1 dd H' s2 n e2
    | some ps =>
      refine iteF ?_
      obtain ⟨hbig, q⟩ := q ps hp
      obtain ⟨ds, hs⟩ : ∃ ds, seqD d = some ds := by
        cases hs : seqD d with
        | none => rw [rowD_none hs] at hp; cases hp
        | some ds => exact ⟨ds, rfl⟩
      have hm := hp
      rw [rowD_seq hs] at hm
      obtain ⟨ml, mi⟩ := mapM_some hm
      obtain ⟨a, xs, rfl, hsq, hds⟩ := hd1.seq hs
      have hl := hds.len
      have hl2 := hlen ds hs
      refine ⟨_, rfl, a, rfl, lc_seq (xs := xs) hsq (fun D i H2 => Same H1 H2 ∧ ∃ as, H2 D = some (.lst (as.map V.ref)) ∧ Tups H2 as ((ps.map lowP).take i)) ?_ ?_ ?_ ?_⟩
      · intro D hD
        exact ⟨same_upd hD, [], upd_same, .nil⟩
      · intro D i H2 hD ⟨s2, _⟩
        exact ⟨same_sqL s2, same_sqT s2⟩
      · intro D i y H2 hD hi ⟨s2, as, e2, t2⟩
        obtain ⟨di, h1, h2⟩ := hds.at hi
        obtain ⟨p, h3, h4⟩ := mi i di h1
        obtain ⟨t, b⟩ := p
        refine ⟨rfl, ?_⟩
        refine ⟨_, rfl, y, .str "number", di, rfl, h2.mono s2, fun t' b' hp' => ?_, fun z => by rw [h4] at z; cases z⟩
        rw [h4] at hp'
        cases hp'
        refine ⟨hbig (t, b) (List.mem_of_getElem? h3), fun r H3 s3 e3 => ?_⟩
        have rD : r ≠ D := ne_of e3 (s3 _ _ e2) (by intro z; cases z)
        have up : ∀ (a : Addr) (p : Int × Int), H3 a = some (.tup [.int p.1, .int p.2]) → upd H3 D (.lst (as.map V.ref ++ [V.ref r])) a = some (.tup [.int p.1, .int p.2]) := fun a p z => by
          rw [upd_ne (ne_of z (s3 _ _ e2) (by intro z; cases z))]
          exact z
        refine ⟨_, s3 _ _ e2, ?_, (fun b o e => ?_), as ++ [r], ?_, ?_⟩
        · have := t2.len
          rw [List.length_take, List.length_map] at this
          rw [List.length_map, sizeLine_eq]
          omega
        · rw [upd_ne (ne_of_none e hD)]
          exact s3 _ _ (s2 _ _ e)
        · rw [upd_same, List.map_append]
          rfl
        · rw [List.take_succ, List.getElem?_map, h3]
          exact ((t2.same s3).imp up).snoc (up _ _ e3)
      · intro lr H2 nlr ⟨s2, as, e2, t2⟩
        have tk : (ps.map lowP).take xs.length = ps.map lowP := by
          rw [hl, ml]
          exact List.take_of_length_le (by rw [List.length_map]; exact Nat.le_refl _)
        rw [tk] at t2
        refine ⟨fun m σ H3 => ∃ as qs, m = List.length as ∧ (∃ v3, σ = [some (.ref x), some (.ref a), some (.ref lr), v3]) ∧ Same H1 H3 ∧ H3 lr = some (.lst (as.map V.ref)) ∧ Tups H3 as qs ∧ strip qs = strip (ps.map lowP) ∧ as.length ≤ 1000, ⟨_, as, _, rfl, ⟨_, rfl⟩, s2, e2, t2, rfl, ?_⟩, ?_⟩
        · have := t2.len
          rw [List.length_map] at this
          omega
        · rintro m σ H3 ⟨as, qs, rfl, ⟨v3, rfl⟩, s3, e3, t3, hst, hz⟩
          have fin : strip qs = qs → sFld K (tVar 0) (tCB (fun xs H Q => ∃ p ys, xs = [.ref p] ∧ ((SqL K H p ys ∧ ∀ l, H l = none → Q (.ref l) (upd H l (.tup ys))) ∨ (SqT K H p ys ∧ Q (.ref p) H))) (tCons (tVar 2) tNil)) "numbers" { nx := fun _ H' => Q .non H', rt := Q } [some (.ref x), some (.ref a), some (.ref lr), v3] H3 := fun hqs => by
            refine ⟨_, rfl, lr, _, rfl, .inl ⟨SqL.of e3, fun tq ntq => ?_⟩⟩
            have hx3 := s3 _ _ (s1 _ _ hx)
            have hxq : x ≠ tq := ne_of_none hx3 ntq
            refine ⟨_, rfl, x, CP, dx, [], rfl, (by rw [upd_ne hxq]; exact hx3), C.cl, C.nf, (by decide), ?_⟩
            refine q _ (fun b o nb eb => ?_) ⟨dx, tq, as, upd_same, (by rw [upd_ne hxq.symm]; exact upd_same), ?_⟩
            · have eb3 := s3 _ _ (s1 _ _ eb)
              rw [upd_ne nb, upd_ne (ne_of_none eb3 ntq)]
              exact eb3
            · rw [← hst, hqs]
              refine t3.imp fun c p z => ?_
              rw [upd_ne (ne_of z hx3 (by intro z; cases z)), upd_ne (ne_of_none z ntq)]
              exact z
          rcases snoc_cases qs with rfl | ⟨qs, y, rfl⟩
          · cases t3
            refine ⟨_, rfl, false, .inl ⟨[], SqL.of e3, rfl⟩, ?_⟩
            refine iteF ?_
            refine iteF ?_
            exact fin strip_nil
          · obtain ⟨as', r, rfl, t4, er⟩ := t3.unsnoc
            refine ⟨_, rfl, true, .inl ⟨_, SqL.of e3, by simp⟩, ?_⟩
            refine iteT ?_
            refine ⟨_, rfl, _, rfl, lr, _, _, .ref r, rfl, rfl, SqL.of e3, (by rw [List.map_append]; exact atI_last _ _), r, _, _, .int y.1, rfl, rfl, SqT.of er, at_of (j := 0) rfl rfl, rfl, _, rfl, ?_⟩
            by_cases y0 : y.1 = 0
            · rw [decide_eq_true (by rw [y0])]
              refine iteT ?_
              refine ⟨fun σ' H' => ∃ qs', (∃ v3, σ' = [some (.ref x), some (.ref a), some (.ref lr), v3]) ∧ Same H1 H' ∧ H' lr = some (.lst (as'.map V.ref)) ∧ Tups H' as' qs' ∧ strip qs' = strip (ps.map lowP) ∧ as'.length ≤ 1000, fun σ' H' ⟨qs', h1, h2, h3, h4, h5, h6⟩ => ⟨as'.length, by rw [List.length_append]; simp, as', qs', rfl, h1, h2, h3, h4, h5, h6⟩, ?_⟩
              refine ⟨_, rfl, .inl ⟨rfl, _, SqL.of e3⟩, lr, _, .ref r, rfl, rfl, e3, ?_, ?_⟩
              · simp
              · refine ⟨qs, ⟨_, rfl⟩, fun b o eb => ?_, ?_, ?_, ?_, ?_⟩
                · rw [upd_ne (ne_of_none eb nlr)]
                  exact s3 _ _ eb
                · rw [upd_same, List.map_append]
                  simp
                · refine t4.imp fun c p z => ?_
                  rw [upd_ne (ne_of z e3 (by intro z; cases z))]
                  exact z
                · rw [strip_snoc, if_pos y0] at hst
                  exact hst
                · rw [List.length_append] at hz
                  omega
            · rw [decide_eq_false (fun z => y0 (by have z2 := V.int.inj z; exact z2))]
              refine iteF ?_
              exact fin (by rw [strip_snoc, if_neg y0])
def spPolyE (K : PySem.W.Frag) (CP : Addr) : Sp := fun vs H Q _ => ∃ (a : Addr) (rs : List (Int × Int)) (v : V), vs = [.ref a, v] ∧ PolyAt K CP H a rs ∧
  ((∃ (b : Addr) (rs2 : List (Int × Int)), v = .ref b ∧ PolyAt K CP H b rs2 ∧ Q (.bl (decide (rs = rs2))) H) ∨ (∃ d, Dt K H v d ∧ Q (.bl false) H))
def spPolyD (K : PySem.W.Frag) (CP : Addr) : Sp := fun vs H Q _ => ∃ (a : Addr) (rs : List (Int × Int)), vs = [.ref a] ∧ PolyAt K CP H a rs ∧ Q (.int ((rs.length : Int) - 1)) H
def leadP (rs : List (Int × Int)) : Int × Int := rs.getLast?.getD (0, 1)
def spPolyL (K : PySem.W.Frag) (CP : Addr) : Sp := fun vs H Q _ => ∃ (a : Addr) (rs : List (Int × Int)), vs = [.ref a] ∧ PolyAt K CP H a rs ∧ ∀ (r : Addr) (H' : Hp), Same H H' → H' r = some (.tup [.int (leadP rs).1, .int (leadP rs).2]) → Q (.ref r) H'
theorem scPolyE : FnScope ["self", "other"] ["self", "other"] (defScope sPolyE) := ⟨rfl, rfl, rfl, by decide +kernel, rfl, by decide +kernel, by decide +kernel⟩
theorem ok_poly_eq {f : Addr} {fd : FuncData} (F : Fun K "__eq__" "Poly.__eq__" sPolyE f fd) (T : Bk mg) (hm1 : M1 base) (C : PoC K mg CP) : FnOk P w K mg base CX0 1 f fd ["self", "other"] (spPolyE K CP) := by
  refine F.ok scPolyE (fun vs H Q E h => ?_) (fun cdv A outer s H vs Q E hr h => ?_)
  · obtain ⟨a, rs, v, rfl, _⟩ := h
    rfl
  · obtain ⟨a, rs, v, rfl, ha, q⟩ := h
    refine ⟨_, (pss_one (ps_ret (pe_and (pe_callB call_isi (by rfl) T.isinstance (by decide +kernel) (pa_cons (pv 1) (pa_cons (pe_glob (v := V.ref CP) rfl C.m rfl) pa_nil))) (pe_one (pe_cmpR (op_eqT hr.units hm1) (pe_fld (pv 0) rfl) (pe_fld (pv 1) rfl) (nomark _)))))), ?_⟩
    rcases q with ⟨b, rs2, rfl, hb, q⟩ | ⟨d, hd, q⟩
    · refine ⟨_, rfl, .ref b, .ref CP, _, .ref CP, _, rfl, .own _, hb.ty C, C.io, _, rfl, ?_⟩
      refine iteT ?_
      obtain ⟨dx, t, as, h1, h2, h3⟩ := ha
      obtain ⟨dx2, t2, as2, g1, g2, g3⟩ := hb
      refine ⟨_, rfl, a, CP, dx, _, .ref t, rfl, h1, C.cl, C.nf, (by kernel_rfl), _, rfl, b, CP, dx2, _, .ref t2, rfl, g1, C.cl, C.nf, (by kernel_rfl), ?_⟩
      refine ⟨.tuple (rs.map pairD), .tuple (rs2.map pairD), .tup (SqT.of h2) h3.dts, .tup (SqT.of g2) g3.dts, (plain_row _).1, (plain_row _).1, (depth_row _).1, ?_⟩
      rw [eqv_row]
      exact q
    · refine ⟨_, rfl, v, .ref CP, _, .ref CP, _, rfl, .own _, hd.ty, C.no d, _, rfl, ?_⟩
      refine iteF ?_
      exact q
theorem scPolyD : FnScope ["self"] ["self"] (defScope sPolyD) := ⟨rfl, rfl, rfl, by decide +kernel, rfl, by decide +kernel, by decide +kernel⟩
theorem ok_poly_degree {f : Addr} {fd : FuncData} (F : Fun K "degree" "Poly.degree" sPolyD f fd) (T : Bk mg) (C : PoC K mg CP) : FnOk P w K mg base CX0 1 f fd ["self"] (spPolyD K CP) := by
  refine F.ok scPolyD (fun vs H Q E h => ?_) (fun cdv A outer s H vs Q E hr h => ?_)
  · obtain ⟨a, rs, rfl, _⟩ := h
    rfl
  · obtain ⟨a, rs, rfl, ⟨dx, t, as, h1, h2, h3⟩, q⟩ := h
    refine ⟨_, (pss_one (ps_ret (pe_op op_sub (pe_callB call_len_seq (by rfl) T.len (by decide +kernel) (pa_cons (pe_fld (pv 0) rfl) pa_nil)) pe_int))), ?_⟩
    refine ⟨_, rfl, a, CP, dx, _, .ref t, rfl, h1, C.cl, C.nf, (by kernel_rfl), t, _, rfl, .inr (SqT.of h2), _, _, rfl, rfl, ?_⟩
    rw [List.length_map, h3.len]
    exact q
end
end Vf

set_option maxRecDepth 100000
set_option maxHeartbeats 8000000
namespace Vf
open PySem PySem.Spec PyProof.Rows L2
/-! ### the program's rows -/
/-- a row, a list or a tuple, of the pairs of these numbers -/
def RS (K : PySem.W.Frag) (H : Hp) (l : Addr) (qs : List Rat) : Prop := ∃ as, (SqL K H l (as.map V.ref) ∨ SqT K H l (as.map V.ref)) ∧ Tups H as (qs.map pq)
theorem RS.same {K : PySem.W.Frag} {H H' : Hp} {l : Addr} {qs : List Rat} (h : RS K H l qs) (s : Same H H') : RS K H' l qs := by
  obtain ⟨as, e, t⟩ := h
  exact ⟨as, e.imp (same_sqL s) (same_sqT s), t.same s⟩
theorem RS.of {K : PySem.W.Frag} {H : Hp} {l : Addr} {qs : List Rat} (h : RL H l qs) : RS K H l qs := by
  obtain ⟨as, e, t⟩ := h
  exact ⟨as, .inl (SqL.of e), t⟩
theorem low_Z {q : Rat} : low q.num q.den = pq q := low_id (pq_low q)
theorem parts_q (q : Rat) : partsD (pairD (pq q)) = some (q.num, (q.den : Int)) := by
  show (if 0 < (q.den : Int) then some (q.num, (q.den : Int)) else none) = _
  rw [if_pos (by have := q.den_pos; omega)]
/-- below 2 ^ 200 above and below -/
def Z2 (q : Rat) : Prop := Sz q.num ∧ Sz (q.den : Int)
theorem z2_zero : Z2 0 := ⟨by show (0 : Nat) < 2 ^ 200; decide +kernel, by show (1 : Nat) < 2 ^ 200; decide +kernel⟩
theorem z2_neg {q : Rat} (h : Z2 q) : Z2 (-q) := by
  refine ⟨?_, ?_⟩
  · show (-q).num.natAbs < _
    rw [Rat.neg_num, Int.natAbs_neg]
    exact h.1
  · show ((-q).den : Int).natAbs < _
    rw [Rat.neg_den]
    exact h.2
def rIxS (K : PySem.W.Frag) : R2 := fun x y H Q => ∃ p xs i v, x = .ref p ∧ y = .int i ∧ (SqL K H p xs ∨ SqT K H p xs) ∧ atI xs i = some v ∧ Q v H
theorem ix_seq {X : Cx} : IxR X (rIxS X.K) := by
  intro value slice pins s σ H x y v u Q I rx ry h hs
  obtain ⟨p, xs, i, z, e1, e2, hq, he, q⟩ := h
  rcases hq with hq | hq
  · exact ix_list value slice pins s σ H x y v u Q I rx ry ⟨p, xs, i, z, e1, e2, hq, he, q⟩ hs
  · exact ix_tup value slice pins s σ H x y v u Q I rx ry ⟨p, xs, i, z, e1, e2, hq, he, q⟩ hs
theorem RS.getQ {K : PySem.W.Frag} {H : Hp} {l : Addr} {qs : List Rat} (h : RS K H l qs) : ∃ xs : List V, (SqL K H l xs ∨ SqT K H l xs) ∧ xs.length = qs.length ∧ ∀ i, i < qs.length → ∃ a, xs[i]? = some (.ref a) ∧ TR H a (cf qs i) := by
  obtain ⟨as, e, t⟩ := h
  refine ⟨_, e, by rw [List.length_map, t.lenQ], fun i hi => ?_⟩
  obtain ⟨a, h1, h2⟩ := t.getQ hi
  exact ⟨a, by rw [List.getElem?_map, h1]; rfl, h2⟩
def spNumOf (K : PySem.W.Frag) : Sp := fun vs H Q _ => ∃ (l : Addr) (a : List Rat) (i : Nat), vs = [.ref l, .int i] ∧ RS K H l a ∧ ∀ (r : Addr) (H' : Hp), Same H H' → TR H' r (cf a i) → Q (.ref r) H'
def spSums (K : PySem.W.Frag) : Sp := fun vs H Q _ => ∃ (l1 l2 : Addr) (a b : List Rat), vs = [.ref l1, .ref l2] ∧ RS K H l1 a ∧ RS K H l2 b ∧ a.length ≤ 500 ∧ b.length ≤ 500 ∧ (∀ i, Z2 (cf a i)) ∧ (∀ i, Z2 (cf b i)) ∧ ∀ (l : Addr) (H' : Hp), Same H H' → RL H' l (padd a b) → Q (.ref l) H'
def spOpp (K : PySem.W.Frag) : Sp := fun vs H Q _ => ∃ (l1 : Addr) (a : List Rat), vs = [.ref l1] ∧ RS K H l1 a ∧ a.length ≤ 500 ∧ ∀ (l : Addr) (H' : Hp), Same H H' → RL H' l (a.map (- ·)) → Q (.ref l) H'
section
variable {P : Program} {w : World} {K : PySem.W.Frag} {mg : Str → Option Value} {base : Heap} {CP CR CN : Addr}
abbrev sNumOf : Stmt := topS 26
abbrev sSums : Stmt := topS 27
abbrev sOpp : Stmt := topS 28
theorem scNumOf : FnScope ["numbers", "power"] ["numbers", "power"] (defScope sNumOf) := ⟨rfl, rfl, rfl, by decide +kernel, rfl, by decide +kernel, by decide +kernel⟩
theorem ok_num_of {f : Addr} {fd : FuncData} (F : Fun K "number_of" "number_of" sNumOf f fd) (T : Bk mg) : FnOk P w K mg base CX0 1 f fd ["numbers", "power"] (spNumOf K) := by
  refine F.ok scNumOf (fun vs H Q E h => ?_) (fun cdv A outer s H vs Q E hr h => ?_)
  · obtain ⟨l, a, i, rfl, _⟩ := h
    rfl
  · obtain ⟨l, a, i, rfl, hl, q⟩ := h
    refine ⟨_, (pss_one (ps_ret (pe_ifExp (pt_cmpR op_lt (pv 1) (pe_callB call_len_seq (by rfl) T.len (by decide +kernel) (pa_cons (pv 0) pa_nil)) (nomark _)) (pe_ix ix_seq (pv 0) (pv 1) (fun _ _ => rfl)) (pe_tup (pa_cons pe_int (pa_cons pe_int pa_nil)))))), ?_⟩
    obtain ⟨xs, hx, hn, get⟩ := hl.getQ
    refine ⟨_, rfl, _, rfl, l, xs, rfl, hx, _, _, rfl, rfl, _, rfl, ?_⟩
    rw [hn]
    by_cases hi : i < a.length
    · rw [decide_eq_true (show (i : Int) < (a.length : Nat) by omega)]
      refine iteT ?_
      obtain ⟨r, h1, h2⟩ := get i hi
      exact ⟨_, rfl, _, rfl, l, xs, _, _, rfl, rfl, hx, at_of (j := i) rfl h1, q r H (Same.refl _) h2⟩
    · rw [decide_eq_false (show ¬(i : Int) < (a.length : Nat) by omega)]
      refine iteF ?_
      refine ⟨(by show 2 ≤ sizeLine; decide), fun t nt => q t _ (same_upd nt) ?_⟩
      rw [cf_ge (by omega)]
      exact tr_zero upd_same
theorem scSums : FnScope ["one", "other", "powers", "power"] ["one", "other"] (defScope sSums) := ⟨rfl, rfl, rfl, by decide +kernel, rfl, by decide +kernel, by decide +kernel⟩
theorem ok_sums {f : Addr} {fd : FuncData} (F : Fun K "sums_of" "sums_of" sSums f fd) (T : Bk mg) (hmax : mg "max" = none) (Gn : Df P w K mg base "number_of" 1 ["numbers", "power"] (spNumOf K)) (Gp : Dx P w K mg base "plus" 4 ["one", "other"] (spTwo K CN (okLow gPlus))) : FnOk P w K mg base (L2.CX P w) 5 f fd ["one", "other"] (spSums K) := by
  refine F.okX scSums (fun vs H Q E h => ?_) (fun cdv A outer s H vs Q E hr h => ?_)
  · obtain ⟨l1, l2, a, b, rfl, _⟩ := h
    rfl
  · obtain ⟨l1, l2, a, b, rfl, h1, h2, la, lb, za, zb, q⟩ := h
    refine ⟨_, (pss_cons (ps_set (i := 2) scSums.nd rfl (Or.inl rfl) (pe_callTy cr_range1 (by rfl) T.range (by decide +kernel) (pa_cons (pe_callB (call_max2 rfl) (by rfl) hmax (by decide +kernel) (pa_cons (pe_callB call_len_seq (by rfl) T.len (by decide +kernel) (pa_cons (pv 0) pa_nil)) (pa_cons (pe_callB call_len_seq (by rfl) T.len (by decide +kernel) (pa_cons (pv 1) pa_nil)) pa_nil))) pa_nil)))
      (pss_one (ps_ret (pe_lc (own := [("power", 3)]) (g := gName 3) (tt := tYes) rfl scSums.nd (pi_rng (pv 2)) (blkOk_by (N := ["one", "other", "powers", "power"]) (sc := defScope sSums) (by decide +kernel)) (fun _ _ _ _ _ => pg_name (i := 3) scSums.nd rfl (Or.inl rfl)) (fun _ _ _ _ _ => pts_nil)
        (fun _ _ _ _ _ => (pe_call Gp.ok (hr.mono (by decide)) rfl Gp.m Gp.kp Gp.b .nil passL (pa_cons (pe_call Gn.ok (hr.mono (by decide)) rfl Gn.m Gn.kp Gn.b .nil pass0 (pa_cons (pv 0) (pa_cons (pv 3) pa_nil))) (pa_cons (pe_call Gn.ok (hr.mono (by decide)) rfl Gn.m Gn.kp Gn.b .nil pass0 (pa_cons (pv 1) (pa_cons (pv 3) pa_nil))) pa_nil)))))))), ?_⟩
    obtain ⟨xs, hx, hn, _⟩ := h1.getQ
    obtain ⟨ys, hy, hm, _⟩ := h2.getQ
    refine ⟨_, rfl, l1, xs, rfl, hx, _, rfl, l2, ys, rfl, hy, _, _, rfl, ?_⟩
    rw [hn, hm]
    have em : (if ((b.length : Nat) : Int) > ((a.length : Nat) : Int) then ((b.length : Nat) : Int) else ((a.length : Nat) : Int)) = ((max a.length b.length : Nat) : Int) := by split <;> omega
    rw [em]
    generalize hmx : max a.length b.length = n
    refine ⟨_, rfl, fun p np => ?_⟩
    have ep : upd H p (HO.rng 0 (n : Int)) p = some (HO.rng 0 (n : Int)) := upd_same
    have s1 : Same H (upd H p (HO.rng 0 (n : Int))) := same_upd np
    generalize upd H p (HO.rng 0 (n : Int)) = H1 at ep s1 ⊢
    refine ⟨_, rfl, p, 0, n, rfl, ep, by omega, fun D hD => ?_⟩
    rw [show ((n : Int) - 0).toNat = n by omega]
    refine lc_range (lo := 0) (n := n) (fun i H' => Same H1 H' ∧ ∃ zs, H' D = some (.lst (zs.map V.ref)) ∧ Tups H' zs ((tab i fun j => cf a j + cf b j).map pq)) ⟨same_upd hD, [], upd_same, .nil⟩ ?_ ?_
    · rintro i H' hi ⟨ss, zs, eD, tz⟩
      have e0 : (0 + (i : Int)) = (i : Int) := by omega
      refine ⟨rfl, ?_⟩
      rw [e0]
      refine ⟨_, rfl, _, rfl, l1, a, i, rfl, (h1.same s1).same ss, fun ra H2 s2 tra => ?_⟩
      refine ⟨_, rfl, _, rfl, l2, b, i, rfl, ((h2.same s1).same ss).same s2, fun rb H3 s3 trb => ?_⟩
      refine ⟨_, _, pairD (pq (cf a i)), pairD (pq (cf b i)), rfl, .tup (SqT.of (s3 _ _ tra)) (.cons (.int _) (.cons (.int _) .nil)), .tup (SqT.of trb) (.cons (.int _) (.cons (.int _) .nil)), fun t b' x c h3 h4 => ?_, (fun z => by rw [parts_q] at z; cases z), (fun _ z => by rw [parts_q] at z; cases z)⟩
      rw [parts_q] at h3 h4
      cases h3
      cases h4
      refine ⟨(za i).1, (za i).2, (zb i).1, (zb i).2, fun r' H'' s' er => ?_⟩
      have er : TR H'' r' (cf a i + cf b i) := by
        have z := low_add (cf a i) (cf b i)
        unfold gPlus at er
        rw [z] at er
        exact er
      have eD' := s' _ _ (s3 _ _ (s2 _ _ eD))
      refine ⟨_, eD', ?_, (fun b' o' e' => ?_), zs ++ [r'], ?_, ?_⟩
      · have := tz.lenQ
        rw [tab_len] at this
        rw [List.length_map, sizeLine_eq]
        omega
      · rw [upd_ne (ne_of_none e' hD)]
        exact s' _ _ (s3 _ _ (s2 _ _ (ss _ _ e')))
      · rw [upd_same, List.map_append]
        rfl
      · rw [tab_snoc]
        have up : ∀ (c : Addr) (p : Int × Int), H'' c = some (.tup [.int p.1, .int p.2]) → upd H'' D (.lst (zs.map V.ref ++ [V.ref r'])) c = some (.tup [.int p.1, .int p.2]) := fun c p z => by
          rw [upd_ne (ne_of z eD' (by intro z; cases z))]
          exact z
        exact Tups.snocQ ((((tz.same s2).same s3).same s').imp up) (up _ (pq _) er)
    · rintro H' ⟨ss, zs, eD, tz⟩
      refine q D H' (s1.trans ss) ⟨zs, eD, ?_⟩
      unfold padd
      rw [hmx]
      exact tz
theorem scOpp : FnScope ["numbers", "top", "bottom"] ["numbers"] (defScope sOpp) := ⟨rfl, rfl, rfl, by decide +kernel, rfl, by decide +kernel, by decide +kernel⟩
theorem ok_opp {f : Addr} {fd : FuncData} (F : Fun K "opposites_of" "opposites_of" sOpp f fd) : FnOk P w K mg base CX0 1 f fd ["numbers"] (spOpp K) := by
  refine F.ok scOpp (fun vs H Q E h => ?_) (fun cdv A outer s H vs Q E hr h => ?_)
  · obtain ⟨l1, a, rfl, _⟩ := h
    rfl
  · obtain ⟨l1, a, rfl, ⟨as, e1, t1⟩, la, q⟩ := h
    refine ⟨_, (pss_one (ps_ret (pe_lc (own := [("top", 1), ("bottom", 2)]) (g := gTup K 2 (gCons (gName 1) (gCons (gName 2) gNil))) (tt := tYes) rfl scOpp.nd (pi_seq (pv 0)) (blkOk_by (N := ["numbers", "top", "bottom"]) (sc := defScope sOpp) (by decide +kernel)) (fun _ _ _ _ _ => pg_tup rfl (pgs_cons (pg_name (i := 1) scOpp.nd rfl (Or.inl rfl)) (pgs_cons (pg_name (i := 2) scOpp.nd rfl (Or.inl rfl)) pgs_nil))) (fun _ _ _ _ _ => pts_nil)
      (fun _ _ _ _ _ => (pe_tup (pa_cons (pe_un un_neg (pv 1)) (pa_cons (pv 2) pa_nil))))))), ?_⟩
    have n1 := t1.lenQ
    refine ⟨_, rfl, l1, rfl, lc_seq (xs := as.map V.ref) e1 (fun D i H' => Same H H' ∧ ∃ zs, H' D = some (.lst (zs.map V.ref)) ∧ Tups H' zs ((tab i fun j => -cf a j).map pq)) ?_ ?_ ?_ ?_⟩
    · intro D hD
      exact ⟨same_upd hD, [], upd_same, .nil⟩
    · intro D i H2 hD ⟨s2, _⟩
      exact ⟨same_sqL s2, same_sqT s2⟩
    · intro D i x H' hD hi ⟨ss, zs, eD, tz⟩
      rw [List.getElem?_map] at hi
      cases hr0 : as[i]? with
      | none => rw [hr0] at hi; cases hi
      | some r =>
        rw [hr0] at hi
        cases hi
        obtain ⟨qq, hq1, hq2⟩ := t1.atQ hr0
        have hc := cf_get hq1
        refine ⟨r, _, rfl, SqT.of (ss _ _ hq2), rfl, _, _, rfl, _, _, rfl, rfl, rfl, ?_⟩
        refine ⟨_, rfl, _, rfl, _, rfl, (by show 2 ≤ sizeLine; decide), fun t nt => ?_⟩
        have et : TR (upd H' t (HO.tup [V.int (-qq.num), V.int (qq.den : Int)])) t (-cf a i) := by
          rw [hc]
          unfold TR
          rw [upd_same, Rat.neg_num, Rat.neg_den]
        have st : Same H' (upd H' t (HO.tup [V.int (-qq.num), V.int (qq.den : Int)])) := same_upd nt
        generalize upd H' t (HO.tup [V.int (-qq.num), V.int (qq.den : Int)]) = H2 at et st ⊢
        have eD' := st _ _ eD
        refine ⟨_, eD', ?_, (fun b' o' e' => ?_), zs ++ [t], ?_, ?_⟩
        · have := tz.lenQ
          have := (List.getElem?_eq_some_iff.mp hr0).1
          rw [tab_len] at *
          rw [List.length_map, sizeLine_eq]
          omega
        · rw [upd_ne (ne_of_none e' hD)]
          exact st _ _ (ss _ _ e')
        · rw [upd_same, List.map_append]
          rfl
        · rw [tab_snoc]
          have up : ∀ (c : Addr) (p : Int × Int), H2 c = some (.tup [.int p.1, .int p.2]) → upd H2 D (.lst (zs.map V.ref ++ [V.ref t])) c = some (.tup [.int p.1, .int p.2]) := fun c p z => by
            rw [upd_ne (ne_of z eD' (by intro z; cases z))]
            exact z
          exact Tups.snocQ ((tz.same st).imp up) (up t (pq (-cf a i)) et)
    · intro D H' hD ⟨ss, zs, eD, tz⟩
      rw [List.length_map, n1] at tz
      have e : (tab a.length fun j => -cf a j) = a.map (- ·) := by
        refine List.ext_getElem? fun i => ?_
        unfold tab
        rw [List.getElem?_map, List.getElem?_map]
        by_cases h : i < a.length
        · rw [List.getElem?_range h, List.getElem?_eq_getElem h]
          show some (-cf a i) = some (-a[i])
          rw [cf_lt h]
        · rw [List.getElem?_eq_none_iff.mpr (by rw [List.length_range]; omega), List.getElem?_eq_none_iff.mpr (by omega)]
          rfl
      rw [e] at tz
      exact q D H' ss ⟨zs, eD, tz⟩
end
end Vf

set_option maxRecDepth 100000
set_option maxHeartbeats 8000000
namespace Vf
open PySem PySem.Spec PyProof.Rows L2
/-! ### rows over one bottom -/
/-- the numbers of a Poly of the law -/
def Sm (q : Rat) : Prop := q.num.natAbs ≤ 2 ^ 13 ∧ q.den ≤ 2 ^ 12
theorem sm_zero' : Sm 0 := ⟨Nat.zero_le _, by show 1 ≤ 2 ^ 12; decide⟩
theorem num_den (q : Rat) : q * ((q.den : Nat) : Rat) = ((q.num : Int) : Rat) := by
  obtain ⟨n, e, h⟩ := Fr.self q
  have h0 : (q.den : Rat) ≠ 0 := by
    have := q.den_nz
    exact_mod_cast this
  have z : (q.num : Rat) / (q.den : Rat) = q := by
    have := Rat.num_divInt_den q
    rw [Rat.divInt_eq_div] at this
    exact_mod_cast this
  have := Rat.div_mul_cancel (a := (q.num : Rat)) h0
  rw [z] at this
  exact this
theorem over_one {q : Rat} {b : Nat} (h : q.den ∣ b) : q * (b : Rat) = ((q.num * ((b : Int) / (q.den : Int)) : Int) : Rat) := by
  obtain ⟨k, rfl⟩ := h
  have e : ((q.den * k : Nat) : Int) / (q.den : Int) = (k : Int) := by
    have := q.den_nz
    rw [Int.natCast_mul, Int.mul_ediv_cancel_left _ (by omega)]
  rw [e]
  have e2 : ((q.den * k : Nat) : Rat) = (q.den : Rat) * (k : Rat) := by exact_mod_cast rfl
  have e3 : ((q.num * (k : Int) : Int) : Rat) = (q.num : Rat) * (k : Rat) := by exact_mod_cast rfl
  rw [e2, e3, ← Rat.mul_assoc, num_den]
def spOver (K : PySem.W.Frag) : Sp := fun vs H Q _ => ∃ (l : Addr) (as : List Addr) (a : List Rat), vs = [.ref l] ∧ SqT K H l (as.map V.ref) ∧ Tups H as (a.map pq) ∧ a.length ≤ 13 ∧ (∀ i, Sm (cf a i)) ∧
  ∀ (r l' : Addr) (ns : List Int) (b : Nat) (H' : Hp), Same H H' → H' r = some (.tup [.ref l', .int (b : Int)]) → H' l' = some (.lst (ns.map V.int)) → 0 < b → b ≤ 2 ^ 156 → ns.length = a.length → (∀ i, cf a i * (b : Rat) = ((ci ns i : Int) : Rat)) → (∀ i, (ci ns i).natAbs ≤ 2 ^ 169) → Q (.ref r) H'
section
variable {P : Program} {w : World} {K : PySem.W.Frag} {mg : Str → Option Value} {base : Heap} {CP CR CN : Addr}
abbrev sOver : Stmt := topS 30
theorem scOver : FnScope ["numbers", "below", "number", "top", "bottom"] ["numbers"] (defScope sOver) := ⟨rfl, rfl, rfl, by decide +kernel, rfl, by decide +kernel, by decide +kernel⟩
theorem lt_4000 {b : Nat} {k : Nat} (h : b ≤ 2 ^ k) (hk : k < 3900) : b < 2 ^ 3900 := Nat.lt_of_le_of_lt h (Nat.pow_lt_pow_right (by decide) hk)
theorem ok_over {f : Addr} {fd : FuncData} (F : Fun K "over_one_bottom" "over_one_bottom" sOver f fd) (hlcm : mg "lcm" = some (.builtin "math.lcm")) : FnOk P w K mg base CX0 1 f fd ["numbers"] (spOver K) := by
  refine F.ok scOver (fun vs H Q E h => ?_) (fun cdv A outer s H vs Q E hr h => ?_)
  · obtain ⟨l, as, a, rfl, _⟩ := h
    rfl
  · obtain ⟨l, as, a, rfl, hS, t1, la, sa, q⟩ := h
    refine ⟨_, (pss_cons (ps_set (i := 1) scOver.nd rfl (Or.inr rfl) pe_int)
  (pss_cons (ps_for PassesOwn.never rfl (pi_tup (pv 0)) (pg_name (i := 2) scOver.nd rfl (Or.inl rfl))
    (pss_one (ps_set (i := 1) scOver.nd rfl (Or.inr rfl) (pe_callBfun cr_lcm (by rfl) hlcm (pa_cons (pv 1) (pa_cons (pe_ix ix_tup (pv 2) pe_int (fun _ _ => rfl)) pa_nil))))))
  (pss_one (ps_ret (pe_tup (pa_cons (pe_lc (own := [("top", 3), ("bottom", 4)]) (g := gTup K 2 (gCons (gName 3) (gCons (gName 4) gNil))) (tt := tYes) rfl scOver.nd (pi_seq (pv 0)) (blkOk_by (N := ["numbers", "below", "number", "top", "bottom"]) (sc := defScope sOver) (by decide +kernel)) (fun _ _ _ _ _ => pg_tup rfl (pgs_cons (pg_name (i := 3) scOver.nd rfl (Or.inl rfl)) (pgs_cons (pg_name (i := 4) scOver.nd rfl (Or.inl rfl)) pgs_nil))) (fun _ _ _ _ _ => pts_nil) (fun _ _ _ _ _ => (pe_op op_mulW (pv 3) (pe_op op_fdivW (pv 1) (pv 4))))) (pa_cons (pv 1) pa_nil))))))), ?_⟩
    have n1 := t1.lenQ
    refine ⟨_, rfl, l, rfl, ⟨_, hS⟩, for_tup (K := K) (a := l) (xs := as.map V.ref) (fun i σ H' => ∃ (b : Nat) (v : Option V), σ = [some (.ref l), some (.int (b : Int)), v, none, none] ∧ Same H H' ∧ 0 < b ∧ b ≤ (2 ^ 12) ^ i ∧ ∀ j, j < i → (cf a j).den ∣ b)
      ⟨1, none, rfl, Same.refl _, by decide, by decide, fun j hj => by omega⟩ (fun i σ H' _ ⟨_, _, _, ss, _⟩ => same_sqT ss hS) ?_ ?_⟩
    · rintro i x σ H' hi ⟨b, v, rfl, ss, b0, bi, dv⟩
      rw [List.getElem?_map] at hi
      cases hr0 : as[i]? with
      | none => rw [hr0] at hi; cases hi
      | some r =>
        rw [hr0] at hi
        cases hi
        obtain ⟨qq, hq1, hq2⟩ := t1.atQ hr0
        have hc := cf_get hq1
        have hi13 : i < 13 := by
          have := (List.getElem?_eq_some_iff.mp hr0).1
          omega
        have hb : b < 2 ^ 4000 := by
          have e : ((2 : Nat) ^ 12) ^ i = 2 ^ (12 * i) := (Nat.pow_mul _ _ _).symm
          rw [e] at bi
          exact Nat.lt_of_le_of_lt bi (Nat.pow_lt_pow_right (by decide) (by omega))
        have hd : qq.den ≤ 2 ^ 12 := by rw [← hc]; exact (sa i).2
        have hd0 := qq.den_pos
        refine ⟨_, rfl, _, rfl, r, _, _, .int (qq.den : Int), rfl, rfl, SqT.of (ss _ _ hq2), at_of (j := 1) rfl rfl, _, _, rfl, by rw [Int.natAbs_natCast]; exact hb, by rw [Int.natAbs_natCast]; exact Nat.lt_of_le_of_lt hd (Nat.pow_lt_pow_right (by decide) (by decide)), ?_⟩
        rw [Int.natAbs_natCast, Int.natAbs_natCast]
        refine ⟨b.lcm qq.den, _, rfl, ss, Nat.lcm_pos b0 hd0, ?_, fun j hj => ?_⟩
        · have le : b.lcm qq.den ≤ b * qq.den := Nat.le_of_dvd (Nat.mul_pos b0 hd0) (Nat.lcm_dvd_mul b qq.den)
          rw [Nat.pow_succ]
          exact Nat.le_trans le (Nat.mul_le_mul bi hd)
        · by_cases e : j = i
          · rw [e, hc]
            exact Nat.dvd_lcm_right _ _
          · exact Nat.dvd_trans (dv j (by omega)) (Nat.dvd_lcm_left _ _)
    · rintro σ H' ⟨b, v, rfl, ss, b0, bi, dv⟩
      rw [List.length_map, n1] at bi dv
      have b156 : b ≤ 2 ^ 156 := by
        have e : ((2 : Nat) ^ 12) ^ a.length = 2 ^ (12 * a.length) := (Nat.pow_mul _ _ _).symm
        rw [e] at bi
        exact Nat.le_trans bi (Nat.pow_le_pow_right (by decide) (by omega))
      have hS' := same_sqT ss hS
      have t1' := t1.same ss
      let g : Nat → Int := fun i => (cf a i).num * ((b : Int) / ((cf a i).den : Int))
      have hg : ∀ i, i < a.length → (g i).natAbs ≤ 2 ^ 169 := fun i hi => by
        show ((cf a i).num * ((b : Int) / ((cf a i).den : Int))).natAbs ≤ _
        rw [Int.natAbs_mul, show (2 : Nat) ^ 169 = 2 ^ 13 * 2 ^ 156 from by decide +kernel]
        refine Nat.mul_le_mul (sa i).1 (Nat.le_trans ?_ b156)
        rw [← Int.natCast_ediv, Int.natAbs_natCast]
        exact Nat.div_le_self _ _
      refine ⟨_, rfl, l, rfl, lc_seq (xs := as.map V.ref) (.inr hS') (fun D i H2 => Same H' H2 ∧ H2 D = some (.lst ((tabI i g).map V.int))) ?_ ?_ ?_ ?_⟩
      · intro D hD
        exact ⟨same_upd hD, upd_same⟩
      · intro D i H2 hD ⟨s2, _⟩
        exact ⟨same_sqL s2, same_sqT s2⟩
      · intro D i x H2 hD hi ⟨s2, eD⟩
        rw [List.getElem?_map] at hi
        cases hr0 : as[i]? with
        | none => rw [hr0] at hi; cases hi
        | some r =>
          rw [hr0] at hi
          cases hi
          obtain ⟨qq, hq1, hq2⟩ := t1'.atQ hr0
          have hc := cf_get hq1
          have hi13 := (List.getElem?_eq_some_iff.mp hr0).1
          have h1 : (qq.num).natAbs < 2 ^ 3900 := lt_4000 (by rw [← hc]; exact (sa i).1) (by decide)
          have h2 : ((b : Int) / (qq.den : Int)).natAbs < 2 ^ 3900 := by
            rw [← Int.natCast_ediv, Int.natAbs_natCast]
            exact lt_4000 (Nat.le_trans (Nat.div_le_self _ _) b156) (by decide)
          refine ⟨r, _, rfl, SqT.of (s2 _ _ hq2), rfl, _, _, rfl, _, _, rfl, rfl, rfl, ?_⟩
          refine ⟨_, rfl, _, rfl, _, rfl, _, _, rfl, rfl, ?_, _, _, rfl, rfl, big_mulW h1 h2, ?_⟩
          · have := qq.den_pos
            refine ⟨by omega, ?_⟩
            rw [Int.natAbs_natCast]
            have h3 : qq.den < 2 ^ 4000 := Nat.lt_of_le_of_lt (show qq.den ≤ 2 ^ 12 by rw [← hc]; exact (sa i).2) (Nat.pow_lt_pow_right (by decide) (by decide))
            exact Nat.lt_trans (log_4000 h3) (by decide)
          · refine ⟨_, eD, ?_, (fun b' o' e' => ?_), ?_⟩
            · rw [List.length_map, tabI_len, sizeLine_eq]
              omega
            · rw [upd_ne (ne_of_none e' hD)]
              exact s2 _ _ e'
            · rw [upd_same, tabI_snoc, List.map_append]
              show _ = some (HO.lst (_ ++ [V.int (g i)]))
              simp only [g, hc]
      · intro D H2 hD ⟨s2, eD⟩
        rw [List.length_map, n1] at eD
        refine ⟨_, rfl, (by show 2 ≤ sizeLine; decide), fun r nr => ?_⟩
        have s3 : Same H2 (upd H2 r (HO.tup [V.ref D, V.int (b : Int)])) := same_upd nr
        refine q r D _ b _ ((ss.trans s2).trans s3) upd_same (s3 _ _ eD) b0 b156 (tabI_len _ _) (fun i => ?_) (fun i => ?_)
        · rw [ci_tab]
          by_cases hi : i < a.length
          · rw [if_pos hi]
            exact over_one (dv i hi)
          · rw [if_neg hi, cf_ge (by omega), Rat.zero_mul]
            rfl
        · rw [ci_tab]
          by_cases hi : i < a.length
          · rw [if_pos hi]
            exact hg i hi
          · rw [if_neg hi]
            exact Nat.zero_le _
end
end Vf

set_option maxRecDepth 100000
set_option maxHeartbeats 8000000
namespace Vf
open PySem PySem.Spec PyProof.Rows L2
open LamX (ExtN Tabs TabS)
/-- a law's body, nothing leaves it, its own code object known -/
theorem fnG_of1 {P : Program} {w : World} {K : PySem.W.Frag} {mg : Str → Option Value} {base : Heap} {x qual : Str} {st : Stmt} {f : Addr} {fd : FuncData} {N ps : List Str} {k : Nat} {sp : Sp} (F : Fun K x qual st f fd) (S : FnScope N ps (defScope st))
    (ar : ∀ vs H Q E, sp vs H Q E → vs.length = ps.length)
    (body : ∀ (cdv : Value) (A : Around) (out : List Env) (s : Shared) (H : Hp) (vs : List V) (Q : VK) (E : XK), A.guards = some [] → Room k (A.deeper (envOfC qual (defScope st) s.heap.objs.size f cdv)) → fd.code = cdv → sp vs H Q E →
      ∃ t, PSs (cxOf CX0 P w K mg base N qual (defScope st) f cdv A out s H E).nox (defBody st) t ∧ t { nx := fun _ H' => Q .non H', rt := Q } (start N vs) H) : FnG P w K mg base CX0 (k + 1) f fd ps sp := by
  obtain ⟨oc, od, kV, doc, pm, an, cdv, ct, osl, e, lk, hcd⟩ := F.ex
  subst e
  refine ⟨ar, fun {A out s H args us vs Q E} hgu hr e0 hb r h => LamX.run_ofS lk hcd S hr e0 hb r (ar _ _ _ _ h) fun hr' => ?_⟩
  obtain ⟨t, z, q⟩ := body cdv A out s H vs Q E hgu hr' rfl h
  exact ⟨t, z.nox, q⟩
/-- why(lambda: ..) != ("row", repr(x)), where the lambda raises BadRow(x) -/
theorem why_row {K : PySem.W.Frag} {C : Nat → Addr} {T : List (Addr × Str)} {t : XK → TE} {i : Nat} {σ : L2.St} {H : Hp} {R : V → Hp → Prop} {v : V} {d : PyData} (hT : Tabs T H) (hv : σ[i]? = some (some v)) (hd : Dt K H v d) (hs : small d)
    (run : ∀ (H1 : Hp) (Q : VK), ExtN H H1 → RaisesR (C 2) H1 v (WhyE K C Q) → t (WhyE K C Q) σ H1 (fun _ H' => Q .non H')) (rest : ∀ H', ExtN H H' → Tabs T H' → R (.bl false) H') :
    tOp (rNeT K) (LamX.tLam T (TWhy K C) t) (tTup (tCons (tC (V.str "row")) (tCons (tCB (fun xs H Q => ∃ v d, xs = [v] ∧ Dt K H v d ∧ small d ∧ Q (.str d.shown) H) (tCons (tVar i) tNil)) tNil))) σ H R := by
  refine ⟨hT, fun H1 eN T1 => ?_⟩
  refine run H1 _ eN (fun dd H2 s2 n2 e2 => .inr (.inl ⟨rfl, dd, v, d, rfl, e2, (hd.n eN).mono s2, hs, fun tt H3 s3 e3 => ?_⟩))
  refine ⟨v, hv, v, d, rfl, ((hd.n eN).mono s2).mono s3, hs, (by show 2 ≤ sizeLine; decide), fun p np => ?_⟩
  have s4 : Same H3 (upd H3 p (HO.tup [V.str "row", V.str d.shown])) := same_upd np
  have pl : (PyData.tuple [.str "row", .str d.shown]).plain = true := by simp [PyData.plain, PyData.plainAll]
  refine ⟨.tuple [.str "row", .str d.shown], .tuple [.str "row", .str d.shown], .tup (SqT.of (s4 _ _ e3)) (.cons (.str _) (.cons (.str _) .nil)), .tup (SqT.of upd_same) (.cons (.str _) (.cons (.str _) .nil)), pl, pl, (by simp [PyData.depth, PyData.depthAll]), ?_⟩
  rw [SeqAt.eqv_refl_plain _ pl]
  have e13 : Same H1 (upd H3 p (HO.tup [V.str "row", V.str d.shown])) := s2.trans (s3.trans s4)
  exact rest _ (fun b o e n => e13 b o (eN b o e n)) (T1.ext e13)
/-- the law's def of whys, as the written part tells it -/
structure Yy (K : PySem.W.Frag) (mg : Str → Option Value) where
  g : Addr
  kV : Value
  doc : Value
  pm : Value
  an : Option Addr
  cdv : Value
  ct : Value
  oc : Value
  od : Option Addr
  osl : Array (Option Value)
  m : mg "_law_why" = some (.ref g)
  kp : PySem.W.keepIn K (.ref g) = true
  lk : K.lookup g = some ⟨oc, od, .func (PySem.W.fnOf "_law_why" "_law_why" (defArgs sWhy) (defBody sWhy) (defScope sWhy) .none kV doc pm an cdv ct), osl⟩
  hc : PySem.W.codeIn K cdv "_law_why" = true
  b : L2.Binds K (PySem.W.fnOf "_law_why" "_law_why" (defArgs sWhy) (defBody sWhy) (defScope sWhy) .none kV doc pm an cdv ct) ["_law_call"] []
/-- the class of polynomials with its defs -/
structure PoM (P : Program) (w : World) (K : PySem.W.Frag) (mg : Str → Option Value) (base : Heap) (CP CR : Addr) where
  C : PoC K mg CP
  fI : Addr
  dI : FuncData
  mkI : Mk K CP fI
  bI : Binds K dI ["self", "numbers"] []
  okI : FnOk P w K mg base (L2.CX P w) 5 fI dI ["self", "numbers"] (spPolyI K CP CR)
  fE : Addr
  dE : FuncData
  aE : PySem.W.findIn K (.ref CP) "__eq__" = some (some (.ref fE))
  nE : PySem.W.isFn K (.ref fE) = true
  bE : Binds K dE ["self", "other"] []
  okE : FnOk P w K mg base CX0 1 fE dE ["self", "other"] (spPolyE K CP)
theorem rNe_no {x y : Str} {H : Hp} {B : Bool → Hp → Prop} (h : x = y) (g : B false H) : rNe (.str x) (.str y) H (fun v H' => ∃ k, v = V.bl k ∧ B k H') := by
  subst h
  exact ⟨rfl, false, by rw [decide_eq_true rfl]; rfl, g⟩
theorem rNe_int {x y : Int} {H : Hp} {B : Bool → Hp → Prop} (g : x = y → B false H) (h : x ≠ y → B true H) : rNe (.int x) (.int y) H (fun v H' => ∃ k, v = V.bl k ∧ B k H') := by
  by_cases e : x = y
  · exact ⟨rfl, false, by rw [decide_eq_true (by rw [e])]; rfl, g e⟩
  · exact ⟨rfl, true, by rw [decide_eq_false (fun z => e (V.int.inj z))]; rfl, h e⟩
theorem rNe_bl {x y : Bool} {H : Hp} {B : Bool → Hp → Prop} (e : x = y) (g : B false H) : rNe (.bl x) (.bl y) H (fun v H' => ∃ k, v = V.bl k ∧ B k H') := by
  subst e
  exact ⟨rfl, false, by rw [decide_eq_true rfl]; rfl, g⟩
theorem qual_eq {P : Program} {w : World} {K : PySem.W.Frag} {mg : Str → Option Value} {base : Heap} {N : List Str} {qual : Str} {sc : Scope} {f : Addr} {cd : Value} {A : Around} {o : List Env} {s : Shared} {H : Hp} {E : XK} {CT : CXT} : (cxOf CT P w K mg base N qual sc f cd A o s H E).nox.env.qual = qual ++ ".<locals>." := rfl
/-- the table of the law's own code objects -/
def Ts (Pt : Addr) : List (Addr × Str) := [(Pt, (Str.ofString "law" ++ Str.ofString ".<locals>.") ++ Str.ofString "<lambda>")]
theorem ts_mem (Pt : Addr) : (Pt, (Str.ofString "law" ++ Str.ofString ".<locals>.") ++ Str.ofString "<lambda>") ∈ Ts Pt := List.mem_singleton.mpr rfl
theorem ts_only (Pt : Addr) : ∀ p ∈ Ts Pt, p.1 = Pt → p.2 = (Str.ofString "law" ++ Str.ofString ".<locals>.") ++ Str.ofString "<lambda>" := fun p hp _ => by rw [List.mem_singleton.mp hp]
theorem seq_kp {K : PySem.W.Frag} {p a : Addr} {H H' : Hp} {xs : List V} (n : a ≠ p) (k : Kp p H H') : (SqL K H a xs → SqL K H' a xs) ∧ (SqT K H a xs → SqT K H' a xs) := by
  refine ⟨fun h => ?_, fun h => ?_⟩
  · rcases h with (h | ⟨o, h⟩) | h
    · exact Or.inl (Or.inl (k a _ n h))
    · exact Or.inl (Or.inr ⟨o, k a _ n h⟩)
    · exact Or.inr h
  · rcases h with (h | ⟨o, h⟩) | h
    · exact Or.inl (Or.inl (k a _ n h))
    · exact Or.inl (Or.inr ⟨o, k a _ n h⟩)
    · exact Or.inr h
/-- the law's promise -/
def spLaw (K : PySem.W.Frag) (Pt : Addr) : Sp := fun vs H Q _ => ∃ (a : Addr) (ns : List Int), vs = [.ref a] ∧ SqL K H a (ns.map V.int) ∧ ns.length ≤ 63 ∧ H Pt = some (.tbl #[]) ∧ ∀ H', Q (.bl true) H'
/-- a method of the class that raises nothing -/
structure Me (P : Program) (w : World) (K : PySem.W.Frag) (mg : Str → Option Value) (base : Heap) (CP : Addr) (x : Str) (k : Nat) (ps : List Str) (sp : Sp) where
  f : Addr
  fd : FuncData
  m : Meth K CP x f
  b : Binds K fd ps []
  ok : FnOk P w K mg base CX0 k f fd ps sp
/-- changes at lists and at the pen alone -/
theorem Pen.put {H H' : Hp} {p l b : Addr} {B : Int} (h : Pen H p l B) (k : ∀ c u, c ≠ b → H c = some u → H' c = some u) (h1 : b ≠ p) (h2 : b ≠ l) : Pen H' p l B := by
  obtain ⟨ns, a, d, c, f, ⟨g1, g2, g3⟩, hc⟩ := h
  exact ⟨ns, a, d, c, f, ⟨k _ _ h1.symm g1, k _ _ h2.symm g2, g3⟩, hc⟩
theorem Pen.lc {H : Hp} {p l : Addr} {B : Int} (h : Pen H p l B) : ∃ xs, H l = some (.lst xs) := by
  obtain ⟨ns, a, d, c, f, ⟨g1, g2, g3⟩, hc⟩ := h
  exact ⟨_, g2⟩
theorem Pen.ne_new {H : Hp} {p l b : Addr} {B : Int} (h : Pen H p l B) (n : H b = none) : b ≠ p ∧ b ≠ l := by
  obtain ⟨o, e⟩ := h.there
  obtain ⟨xs, e2⟩ := h.lc
  exact ⟨(ne_of_none e n).symm, (ne_of_none e2 n).symm⟩
theorem tabs_lst {T : List (Addr × Str)} {H H' : Hp} {b : Addr} {xs : List V} (hb : H b = some (.lst xs)) (k : ∀ c u, c ≠ b → H c = some u → H' c = some u) (t : Tabs T H) : Tabs T H' := fun y hy => by
  obtain ⟨ps, h1, h2, h3⟩ := t y hy
  refine ⟨ps, k _ _ (ne_of h1 hb (by intro z; cases z)) h1, h2, fun pos cv hc => ?_⟩
  obtain ⟨c', e1, e2⟩ := h3 pos cv hc
  exact ⟨c', e1, k _ _ (ne_of e2 hb (by intro z; unfold LamX.CodeO at z; cases z)) e2⟩
theorem upd_away {H : Hp} {b : Addr} {o : HO} : ∀ c u, c ≠ b → H c = some u → upd H b o c = some u := fun c u h e => by rw [upd_ne h]; exact e
theorem Tups.lst {H H' : Hp} {b : Addr} {xs : List V} (hb : H b = some (.lst xs)) (k : ∀ c u, c ≠ b → H c = some u → H' c = some u) {as : List Addr} {ps : List (Int × Int)} (h : Tups H as ps) : Tups H' as ps :=
  h.imp fun a p z => k _ _ (ne_of z hb (by intro z; cases z)) z
theorem Tups.kp {H H' : Hp} {p l : Addr} {B : Int} (hP : Pen H p l B) (k : Kp p H H') {as : List Addr} {ps : List (Int × Int)} (h : Tups H as ps) : Tups H' as ps := by
  obtain ⟨ns, a, d, c, f, ⟨g1, g2, g3⟩, hc⟩ := hP
  exact h.imp fun a p z => k _ _ (ne_of z g1 (by intro z; cases z)) z
theorem Tups.rep {H : Hp} {a : Addr} {p : Int × Int} (h : H a = some (.tup [.int p.1, .int p.2])) : ∀ n : Nat, Tups H (List.replicate n a) (List.replicate n p)
  | 0 => .nil
  | n + 1 => .cons h (Tups.rep h n)
theorem flat_rep (n : Nat) (a : Addr) : (List.replicate n [V.ref a]).flatten = (List.replicate n a).map V.ref := by
  rw [List.flatten_replicate_singleton, List.map_replicate]
theorem cut_to (xs : List V) (k : Nat) : cutV xs none (some (k : Int)) = xs.take k := by
  unfold cutV
  rw [HT.sIx_none, HT.sIx_nat, Nat.sub_zero, List.drop_zero]
  by_cases h : k ≤ xs.length
  · rw [Nat.min_eq_left h]
  · rw [Nat.min_eq_right (by omega), List.take_of_length_le (by omega), List.take_of_length_le (by omega)]
/-- what ratios have that are drawn -/
structure RatOk (p : Int × Int) : Prop where
  lw : Low p.1 p.2
  zt : S80 p.1
  zb : S80 p.2
theorem lowP_id {p : Int × Int} (h : RatOk p) : lowP p = p := low_id h.lw
theorem lowP_ids : ∀ {ps : List (Int × Int)}, (∀ p ∈ ps, RatOk p) → ps.map lowP = ps
  | [], _ => rfl
  | p :: ps, h => by
    rw [List.map_cons, lowP_id (h p (List.mem_cons_self ..)), lowP_ids fun x hx => h x (List.mem_cons_of_mem _ hx)]
theorem ratOk_big {p : Int × Int} (h : RatOk p) : p.2.natAbs < 2 ^ big := Nat.lt_trans h.zb (Nat.pow_lt_pow_right (by decide) (by decide))
theorem parts_pairD {p : Int × Int} (h : 0 < p.2) : partsD (pairD p) = some p := by
  obtain ⟨t, b⟩ := p
  show (if 0 < b then some (t, b) else none) = some (t, b)
  rw [if_pos h]
def pairL (p : Int × Int) : PyData := .list [.int p.1, .int p.2]
theorem parts_pairL {p : Int × Int} (h : 0 < p.2) : partsD (pairL p) = some p := by
  obtain ⟨t, b⟩ := p
  show (if 0 < b then some (t, b) else none) = some (t, b)
  rw [if_pos h]
theorem mapM_of {f : Int × Int → PyData} : ∀ {ps : List (Int × Int)}, (∀ p ∈ ps, partsD (f p) = some p) → (ps.map f).mapM partsD = some ps
  | [], _ => by rw [List.map_nil, List.mapM_nil]; rfl
  | p :: ps, h => by
    rw [List.map_cons, List.mapM_cons, h p (List.mem_cons_self ..), mapM_of fun x hx => h x (List.mem_cons_of_mem _ hx)]
    rfl
theorem mapM_snoc : ∀ {ds : List PyData} {ps : List (Int × Int)} {d : PyData} {p : Int × Int}, ds.mapM partsD = some ps → partsD d = some p → (ds ++ [d]).mapM partsD = some (ps ++ [p])
  | [], ps, d, p, h, e => by
    rw [List.mapM_nil] at h
    cases h
    rw [List.nil_append, List.mapM_cons, e, List.mapM_nil]
    rfl
  | d0 :: ds, ps, d, p, h, e => by
    rw [List.mapM_cons] at h
    cases e0 : partsD d0 with
    | none => rw [e0] at h; cases h
    | some p0 =>
      rw [e0] at h
      cases e1 : ds.mapM partsD with
      | none => rw [e1] at h; cases h
      | some ps1 =>
        rw [e1] at h
        cases h
        rw [List.cons_append, List.mapM_cons, e0, mapM_snoc e1 e]
        rfl
theorem mapM_odd {ds : List PyData} {d : PyData} (h : d ∈ ds) (e : partsD d = none) : ds.mapM partsD = none := by
  have z := mapM_all ds
  have a : (ds.map fun d => (partsD d).isSome).all id = false := by
    rw [List.all_eq_false]
    exact ⟨_, List.mem_map.mpr ⟨d, h, rfl⟩, by rw [e]; decide⟩
  rw [a] at z
  cases hm : ds.mapM partsD with
  | none => rfl
  | some ps => rw [hm] at z; cases z
theorem gd_pairD {p : Int × Int} (h : RatOk p) : Gd (pairD p) :=
  (gd_pair (Nat.lt_trans h.zt (Nat.pow_lt_pow_right (by decide) (by decide))) (Nat.lt_trans h.zb (Nat.pow_lt_pow_right (by decide) (by decide)))).2
theorem small_row {rs : List (Int × Int)} (hl : rs.length ≤ 100) (h : ∀ p ∈ rs, RatOk p) : small (.tuple (rs.map pairD)) :=
  (small_of_gd (by rw [List.length_map]; exact hl) fun d hd => by
    obtain ⟨p, hp, e⟩ := List.mem_map.mp hd
    rw [← e]
    exact gd_pairD (h p hp)).2
/-- ratios as they are passed -/
inductive Giv : List PyData → List (Int × Int) → Prop
  | nil : Giv [] []
  | cons {d : PyData} {p : Int × Int} {k : Int} {ds : List PyData} {ps : List (Int × Int)} : partsD d = some (p.1 * k, p.2 * k) → 0 < k → k ≤ 3 → Gd d → Giv ds ps → Giv (d :: ds) (p :: ps)
theorem Giv.len : ∀ {ds : List PyData} {ps : List (Int × Int)}, Giv ds ps → ds.length = ps.length
  | _, _, .nil => rfl
  | _, _, .cons _ _ _ _ t => congrArg (· + 1) t.len
theorem Giv.snoc : ∀ {ds : List PyData} {ps : List (Int × Int)} {d : PyData} {p : Int × Int} {k : Int}, Giv ds ps → partsD d = some (p.1 * k, p.2 * k) → 0 < k → k ≤ 3 → Gd d → Giv (ds ++ [d]) (ps ++ [p])
  | _, _, _, _, _, .nil, h1, h2, h3, h4 => .cons h1 h2 h3 h4 .nil
  | _, _, _, _, _, .cons g1 g2 g3 g4 t, h1, h2, h3, h4 => .cons g1 g2 g3 g4 (t.snoc h1 h2 h3 h4)
theorem Giv.row : ∀ {ds : List PyData} {ps : List (Int × Int)}, Giv ds ps → (∀ p ∈ ps, RatOk p) → ∃ qs, ds.mapM partsD = some qs ∧ qs.map lowP = ps ∧ ∀ q ∈ qs, q.2.natAbs < 2 ^ big
  | _, _, .nil, _ => ⟨[], by rw [List.mapM_nil]; rfl, rfl, fun q h => by cases h⟩
  | _, _, .cons (p := p) (k := k) h1 h2 h3 h4 t, h => by
    obtain ⟨qs, e1, e2, e3⟩ := t.row fun x hx => h x (List.mem_cons_of_mem _ hx)
    have ok := h p (List.mem_cons_self ..)
    refine ⟨(p.1 * k, p.2 * k) :: qs, ?_, ?_, ?_⟩
    · rw [List.mapM_cons, h1, e1]
      rfl
    · rw [List.map_cons, e2]
      congr 1
      exact low_back ok.lw h2
    · intro q hq
      rcases List.mem_cons.mp hq with z | z
      · rw [z]
        exact Nat.lt_trans (s80_k ok.zb h2 h3) (Nat.pow_lt_pow_right (by decide) (by decide))
      · exact e3 q z
theorem parts_plain {d : PyData} {p : Int × Int} (h : partsD d = some p) : d.plain = true ∧ d.depth ≤ 1 := by
  cases d with
  | int i => exact ⟨rfl, by simp [PyData.depth]⟩
  | list ds =>
    have z := (pair_pos (ds := ds) (t := p.1) (b := p.2) h).1
    rw [z]
    exact ⟨by simp [PyData.plain, PyData.plainAll], by simp [PyData.depth, PyData.depthAll]⟩
  | tuple ds =>
    have z := (pair_pos (ds := ds) (t := p.1) (b := p.2) h).1
    rw [z]
    exact ⟨by simp [PyData.plain, PyData.plainAll], by simp [PyData.depth, PyData.depthAll]⟩
  | _ => cases h
theorem Giv.plain : ∀ {ds : List PyData} {ps : List (Int × Int)}, Giv ds ps → PyData.plainAll ds = true ∧ PyData.depthAll ds ≤ 1
  | _, _, .nil => ⟨by simp only [PyData.plainAll], by simp only [PyData.depthAll]; omega⟩
  | _, _, .cons h1 _ _ _ t => by
    obtain ⟨a, b⟩ := parts_plain h1
    obtain ⟨c, d⟩ := t.plain
    simp only [PyData.plainAll, PyData.depthAll]
    exact ⟨by rw [a, c]; rfl, Nat.max_le.mpr ⟨b, d⟩⟩
theorem Giv.gd : ∀ {ds : List PyData} {ps : List (Int × Int)}, Giv ds ps → ∀ d ∈ ds, Gd d
  | _, _, .nil, d, h => by cases h
  | _, _, .cons _ _ _ h4 t, d, h => by
    rcases List.mem_cons.mp h with z | z
    · rw [z]; exact h4
    · exact t.gd d z
theorem eqv_nilL : ∀ ds : List PyData, PyData.eqv (.list ds) (.list []) = decide (ds = [])
  | [] => by simp [PyData.eqv, PyData.eqvAll]
  | d :: ds => by simp [PyData.eqv, PyData.eqvAll]
theorem Dts.setAt {K : PySem.W.Frag} {H : Hp} : ∀ {vs : List V} {ds : List PyData} (i : Nat) {v : V} {d : PyData}, Dts K H vs ds → Dt K H v d → Dts K H (vs.set i v) (ds.set i d)
  | _, _, _, _, _, .nil, _ => .nil
  | _, _, 0, _, _, .cons _ t, h => .cons h t
  | _, _, i + 1, _, _, .cons a t, h => .cons a (t.setAt i h)
/-- lists of two whole numbers each -/
inductive Lsts (H : Hp) : List Addr → List (Int × Int) → Prop
  | nil : Lsts H [] []
  | cons {a : Addr} {as : List Addr} {p : Int × Int} {ps : List (Int × Int)} : H a = some (.lst [.int p.1, .int p.2]) → Lsts H as ps → Lsts H (a :: as) (p :: ps)
theorem Lsts.len {H : Hp} : ∀ {as : List Addr} {ps : List (Int × Int)}, Lsts H as ps → as.length = ps.length
  | _, _, .nil => rfl
  | _, _, .cons _ t => congrArg (· + 1) t.len
theorem Lsts.imp {H H' : Hp} : ∀ {as : List Addr} {ps : List (Int × Int)}, (∀ a ∈ as, ∀ (p : Int × Int), H a = some (.lst [.int p.1, .int p.2]) → H' a = some (.lst [.int p.1, .int p.2])) → Lsts H as ps → Lsts H' as ps
  | _, _, _, .nil => .nil
  | _, _, e, .cons h t => .cons (e _ (List.mem_cons_self ..) _ h) (t.imp fun a ha => e a (List.mem_cons_of_mem _ ha))
theorem Lsts.snoc {H : Hp} : ∀ {as : List Addr} {ps : List (Int × Int)} {a : Addr} {p : Int × Int}, Lsts H as ps → H a = some (.lst [.int p.1, .int p.2]) → Lsts H (as ++ [a]) (ps ++ [p])
  | _, _, _, _, .nil, h => .cons h .nil
  | _, _, _, _, .cons h t, h2 => .cons h (t.snoc h2)
theorem Lsts.dts {K : PySem.W.Frag} {H : Hp} : ∀ {as : List Addr} {ps : List (Int × Int)}, Lsts H as ps → Dts K H (as.map V.ref) (ps.map pairL)
  | _, _, .nil => .nil
  | _, _, .cons h t => .cons (.lst (SqL.of h) (.cons (.int _) (.cons (.int _) .nil))) t.dts
theorem Lsts.mem {H : Hp} : ∀ {as : List Addr} {ps : List (Int × Int)}, Lsts H as ps → ∀ a ∈ as, ∃ x y : Int, H a = some (.lst [.int x, .int y])
  | _, _, .nil, a, h => by cases h
  | _, _, .cons h t, a, hm => by
    rcases List.mem_cons.mp hm with z | z
    · rw [z]; exact ⟨_, _, h⟩
    · exact t.mem a z
end Vf

set_option maxRecDepth 100000
set_option maxHeartbeats 8000000
namespace Vf
open PySem PySem.Spec PyProof.Rows L2
/-! ### products -/
def RI (H : Hp) (l : Addr) (ns : List Int) : Prop := H l = some (.lst (ns.map V.int))
theorem smI_split (f : Nat → Int) (m : Nat) : ∀ n, smI f (m + n) = smI f m + smI (fun j => f (m + j)) n
  | 0 => by show smI f m = smI f m + 0; omega
  | n + 1 => by
    show smI f (m + n) + f (m + n) = smI f m + (smI (fun j => f (m + j)) n + f (m + n))
    rw [smI_split f m n]
    omega
theorem smI_zero {f : Nat → Int} : ∀ {n : Nat}, (∀ i, i < n → f i = 0) → smI f n = 0
  | 0, _ => rfl
  | n + 1, h => by
    show smI f n + f n = 0
    rw [smI_zero fun i hi => h i (by omega), h n (by omega)]
    rfl
theorem tabI_sum (f : Nat → Int) : ∀ n, (tabI n f).sum = smI f n
  | 0 => rfl
  | n + 1 => by
    rw [tabI_snoc, List.sum_append, tabI_sum f n]
    show smI f n + (f n + 0) = smI f n + f n
    omega
/-- the number of a power in a product of rows -/
def pcI (xs ys : List Int) (k : Nat) : Int := smI (fun i => ci xs i * ci ys (k - i)) (k + 1)
def pmI (xs ys : List Int) : List Int := if xs = [] ∨ ys = [] then [] else tabI (xs.length + ys.length - 1) (pcI xs ys)
theorem pcI_part (xs ys : List Int) (k : Nat) (h : k + 1 < xs.length + ys.length) : pcI xs ys k = smI (fun j => ci xs (k + 1 - ys.length + j) * ci ys (k - (k + 1 - ys.length + j))) (min (k + 1) xs.length - (k + 1 - ys.length)) := by
  have e1 : k + 1 = (k + 1 - ys.length) + ((min (k + 1) xs.length - (k + 1 - ys.length)) + (k + 1 - min (k + 1) xs.length)) := by omega
  unfold pcI
  rw [e1, smI_split, smI_split, ← e1]
  have z1 : smI (fun i => ci xs i * ci ys (k - i)) (k + 1 - ys.length) = 0 := smI_zero fun i hi => by
    rw [ci_ge (l := ys) (by omega), Int.mul_zero]
  have z2 : smI (fun j => ci xs (k + 1 - ys.length + (min (k + 1) xs.length - (k + 1 - ys.length) + j)) * ci ys (k - (k + 1 - ys.length + (min (k + 1) xs.length - (k + 1 - ys.length) + j)))) (k + 1 - min (k + 1) xs.length) = 0 := smI_zero fun i hi => by
    rw [ci_ge (l := xs) (by omega), Int.zero_mul]
  rw [z1, z2]
  omega
def spPN : Sp := fun vs H Q _ => ∃ (l1 l2 : Addr) (xs ys : List Int) (k : Nat), vs = [.ref l1, .ref l2, .int (k : Int)] ∧ RI H l1 xs ∧ RI H l2 ys ∧ xs.length ≤ 500 ∧ ys.length ≤ 500 ∧ k + 1 < xs.length + ys.length ∧ (∀ i, (ci xs i).natAbs < 2 ^ 3900) ∧ (∀ i, (ci ys i).natAbs < 2 ^ 3900) ∧ ∀ H', Same H H' → Q (.int (pcI xs ys k)) H'
def spPRow (K : PySem.W.Frag) : Sp := fun vs H Q _ => ∃ (l1 l2 : Addr) (xs ys : List Int), vs = [.ref l1, .ref l2] ∧ RI H l1 xs ∧ RI H l2 ys ∧ xs.length ≤ 500 ∧ ys.length ≤ 500 ∧ (∀ i, (ci xs i).natAbs < 2 ^ 3900) ∧ (∀ i, (ci ys i).natAbs < 2 ^ 3900) ∧ ∀ (l : Addr) (H' : Hp), Same H H' → H l = none → RI H' l (pmI xs ys) → Q (.ref l) H'
section
variable {P : Program} {w : World} {K : PySem.W.Frag} {mg : Str → Option Value} {base : Heap} {CP CR CN : Addr}
abbrev sPN : Stmt := topS 4
abbrev sPRow : Stmt := topS 3
theorem scPN : FnScope ["one", "other", "power", "first", "last", "k"] ["one", "other", "power"] (defScope sPN) := ⟨rfl, rfl, rfl, by decide +kernel, rfl, by decide +kernel, by decide +kernel⟩
theorem RI.at {H : Hp} {l : Addr} {ns : List Int} {i : Nat} (h : i < ns.length) : (ns.map V.int)[i]? = some (V.int (ci ns i)) := by
  rw [List.getElem?_map, ci_lt h]
  rfl
theorem ok_pn {f : Addr} {fd : FuncData} (F : Fun K "product_number" "product_number" sPN f fd) (T : Bk mg) (hmax : mg "max" = none) (hmin : mg "min" = none) (hsum : mg "sum" = none) : FnOk P w K mg base CX0 1 f fd ["one", "other", "power"] spPN := by
  refine F.ok scPN (fun vs H Q E h => ?_) (fun cdv A outer s H vs Q E hr h => ?_)
  · obtain ⟨l1, l2, xs, ys, k, rfl, _⟩ := h
    rfl
  · obtain ⟨l1, l2, xs, ys, k, rfl, e1, e2, lx, ly, hk, bx, by', q⟩ := h
    refine ⟨_, (pss_cons (ps_set (i := 3) scPN.nd rfl (Or.inl rfl) (pe_callB (call_max2 rfl) (by rfl) hmax (by decide +kernel) (pa_cons pe_int (pa_cons (pe_op op_add (pe_op op_sub (pv 2) (pe_callB call_len_seq (by rfl) T.len (by decide +kernel) (pa_cons (pv 1) pa_nil))) pe_int) pa_nil))))
  (pss_cons (ps_set (i := 4) scPN.nd rfl (Or.inl rfl) (pe_callB (call_min2 rfl) (by rfl) hmin (by decide +kernel) (pa_cons (pv 2) (pa_cons (pe_op op_sub (pe_callB call_len_seq (by rfl) T.len (by decide +kernel) (pa_cons (pv 0) pa_nil)) pe_int) pa_nil))))
  (pss_one (ps_ret (pe_callB (cr_sum rfl) (by rfl) hsum (by decide +kernel) (pa_cons (pe_lc (own := [("k", 5)]) (g := gName 5) (tt := tYes) rfl scPN.nd (pi_range2 (by rfl) T.range (pa_cons (pv 3) (pa_cons (pe_op op_add (pv 4) pe_int) pa_nil))) (blkOk_by (N := ["one", "other", "power", "first", "last", "k"]) (sc := defScope sPN) (by decide +kernel)) (fun _ _ _ _ _ => pg_name (i := 5) scPN.nd rfl (Or.inl rfl)) (fun _ _ _ _ _ => pts_nil)
    (fun _ _ _ _ _ => (pe_op op_mulW (pe_ix (r := rIxL K) ix_list (pv 0) (pv 5) (fun _ _ => rfl)) (pe_ix (r := rIxL K) ix_list (pv 1) (pe_op op_sub (pv 2) (pv 5)) (fun _ _ => rfl))))) pa_nil)))))), ?_⟩
    refine ⟨_, rfl, _, rfl, l2, _, rfl, .inl (SqL.of e2), _, _, rfl, rfl, _, _, rfl, rfl, _, _, rfl, ?_⟩
    rw [List.length_map]
    have ef : (if ((k : Int) - ((ys.length : Nat) : Int) + 1) > 0 then ((k : Int) - ((ys.length : Nat) : Int) + 1) else 0) = ((k + 1 - ys.length : Nat) : Int) := by split <;> omega
    rw [ef]
    refine ⟨_, rfl, _, rfl, l1, _, rfl, .inl (SqL.of e1), _, _, rfl, rfl, _, _, rfl, ?_⟩
    rw [List.length_map]
    have el : (if ((xs.length : Nat) : Int) - 1 < (k : Int) then ((xs.length : Nat) : Int) - 1 else (k : Int)) = ((min (k + 1) xs.length : Nat) : Int) - 1 := by split <;> omega
    rw [el]
    refine ⟨_, rfl, _, rfl, _, _, rfl, rfl, _, _, rfl, ⟨by omega, by omega, by omega, by omega⟩, fun D hD => ?_⟩
    have et : (((min (k + 1) xs.length : Nat) : Int) - 1 + 1 - ((k + 1 - ys.length : Nat) : Int)).toNat = min (k + 1) xs.length - (k + 1 - ys.length) := by omega
    rw [et]
    refine lc_range (lo := ((k + 1 - ys.length : Nat) : Int)) (n := min (k + 1) xs.length - (k + 1 - ys.length)) (fun i H' => Same H H' ∧ H' D = some (.lst ((tabI i fun j => ci xs (k + 1 - ys.length + j) * ci ys (k - (k + 1 - ys.length + j))).map V.int))) ⟨same_upd hD, upd_same⟩ ?_ ?_
    · rintro i H' hi ⟨ss, eD⟩
      have hi1 : k + 1 - ys.length + i < xs.length := by omega
      have hi2 : k - (k + 1 - ys.length + i) < ys.length := by omega
      refine ⟨rfl, ?_⟩
      refine ⟨_, rfl, _, rfl, l1, _, _, _, rfl, rfl, SqL.of (ss _ _ e1), at_of (j := k + 1 - ys.length + i) (by omega) (RI.at (H := H) (l := l1) hi1), _, rfl, _, rfl, _, rfl, _, _, rfl, rfl, l2, _, _, _, rfl, rfl, SqL.of (ss _ _ e2), at_of (j := k - (k + 1 - ys.length + i)) (by omega) (RI.at (H := H) (l := l2) hi2), _, _, rfl, rfl, big_mulW (bx _) (by' _), ?_⟩
      refine ⟨_, eD, ?_, (fun b' o' e' => ?_), ?_⟩
      · rw [List.length_map, tabI_len, sizeLine_eq]
        omega
      · rw [upd_ne (ne_of_none e' hD)]
        exact ss _ _ e'
      · rw [upd_same, tabI_snoc, List.map_append]
        rfl
    · rintro H' ⟨ss, eD⟩
      refine ⟨D, _, rfl, SqL.of eD, ?_⟩
      rw [tabI_sum, ← pcI_part xs ys k hk]
      exact q H' ss
theorem scPRow : FnScope ["one", "other", "ends", "power"] ["one", "other"] (defScope sPRow) := ⟨rfl, rfl, rfl, by decide +kernel, rfl, by decide +kernel, by decide +kernel⟩
theorem ok_prow {f : Addr} {fd : FuncData} (F : Fun K "product_row" "product_row" sPRow f fd) (T : Bk mg) (Gn : Df P w K mg base "product_number" 1 ["one", "other", "power"] spPN) : FnOk P w K mg base CX0 2 f fd ["one", "other"] (spPRow K) := by
  refine F.ok scPRow (fun vs H Q E h => ?_) (fun cdv A outer s H vs Q E hr h => ?_)
  · obtain ⟨l1, l2, xs, ys, rfl, _⟩ := h
    rfl
  · obtain ⟨l1, l2, xs, ys, rfl, e1, e2, lx, ly, bx, by', q⟩ := h
    refine ⟨_, (pss_cons (ps_if (PW.pt (pw_or (pt_not (pt_truth (pv 0) (by intro _; rfl))) (pw_or1 (pt_not (pt_truth (pv 1) (by intro _; rfl))))))
    (pss_one (ps_ret (pe_lst pa_nil)))
    pss_nil)
  (pss_cons (ps_set (i := 2) scPRow.nd rfl (Or.inl rfl) (pe_callTy cr_range1 (by rfl) T.range (by decide +kernel) (pa_cons (pe_op op_sub (pe_op op_add (pe_callB call_len_seq (by rfl) T.len (by decide +kernel) (pa_cons (pv 0) pa_nil)) (pe_callB call_len_seq (by rfl) T.len (by decide +kernel) (pa_cons (pv 1) pa_nil))) pe_int) pa_nil)))
  (pss_one (ps_ret (pe_lc (own := [("power", 3)]) (g := gName 3) (tt := tYes) rfl scPRow.nd (pi_rng (pv 2)) (blkOk_by (N := ["one", "other", "ends", "power"]) (sc := defScope sPRow) (by decide +kernel)) (fun _ _ _ _ _ => pg_name (i := 3) scPRow.nd rfl (Or.inl rfl)) (fun _ _ _ _ _ => pts_nil) (fun _ _ _ _ _ => (pe_call Gn.ok (hr.mono (by decide)) rfl Gn.m Gn.kp Gn.b .nil pass0 (pa_cons (pv 0) (pa_cons (pv 1) (pa_cons (pv 3) pa_nil)))))))))), ?_⟩
    by_cases hx : xs = []
    · subst hx
      refine ⟨_, rfl, false, .inl ⟨[], SqL.of e1, rfl⟩, ?_⟩
      refine iteT ?_
      refine iteT ?_
      refine ⟨(by show 0 ≤ sizeLine; decide), fun l nl => q l _ (same_upd nl) nl ?_⟩
      unfold pmI
      rw [if_pos (.inl rfl)]
      exact upd_same
    · have hx0 : 0 < xs.length := List.length_pos_iff.mpr hx
      refine ⟨_, rfl, true, .inl ⟨_, SqL.of e1, by simp [hx]⟩, ?_⟩
      refine iteF ?_
      by_cases hy : ys = []
      · subst hy
        refine ⟨_, rfl, false, .inl ⟨[], SqL.of e2, rfl⟩, ?_⟩
        refine iteT ?_
        refine ⟨(by show 0 ≤ sizeLine; decide), fun l nl => q l _ (same_upd nl) nl ?_⟩
        unfold pmI
        rw [if_pos (.inr rfl)]
        exact upd_same
      · have hy0 : 0 < ys.length := List.length_pos_iff.mpr hy
        refine ⟨_, rfl, true, .inl ⟨_, SqL.of e2, by simp [hy]⟩, ?_⟩
        refine iteF ?_
        refine ⟨_, rfl, l1, _, rfl, .inl (SqL.of e1), _, rfl, l2, _, rfl, .inl (SqL.of e2), _, _, rfl, rfl, _, _, rfl, rfl, ?_⟩
        rw [List.length_map, List.length_map]
        refine ⟨_, rfl, fun p np => ?_⟩
        rw [show ((xs.length : Nat) : Int) + ((ys.length : Nat) : Int) - 1 = ((xs.length + ys.length - 1 : Nat) : Int) by omega]
        generalize hn : xs.length + ys.length - 1 = n
        have ep : upd H p (HO.rng 0 (n : Int)) p = some (HO.rng 0 (n : Int)) := upd_same
        have s1 : Same H (upd H p (HO.rng 0 (n : Int))) := same_upd np
        generalize upd H p (HO.rng 0 (n : Int)) = H1 at ep s1 ⊢
        refine ⟨_, rfl, p, 0, n, rfl, ep, by omega, fun D hD => ?_⟩
        rw [show ((n : Int) - 0).toNat = n by omega]
        refine lc_range (lo := 0) (n := n) (fun i H' => Same H1 H' ∧ H' D = some (.lst ((tabI i (pcI xs ys)).map V.int))) ⟨same_upd hD, upd_same⟩ ?_ ?_
        · rintro i H' hi ⟨ss, eD⟩
          have e0 : (0 + (i : Int)) = (i : Int) := by omega
          refine ⟨rfl, ?_⟩
          rw [e0]
          refine ⟨_, rfl, _, rfl, _, rfl, l1, l2, xs, ys, i, rfl, ss _ _ (s1 _ _ e1), ss _ _ (s1 _ _ e2), lx, ly, by omega, bx, by', fun H'' s' => ?_⟩
          refine ⟨_, s' _ _ eD, ?_, (fun b' o' e' => ?_), ?_⟩
          · rw [List.length_map, tabI_len, sizeLine_eq]
            omega
          · rw [upd_ne (ne_of_none e' hD)]
            exact s' _ _ (ss _ _ e')
          · rw [upd_same, tabI_snoc, List.map_append]
            rfl
        · rintro H' ⟨ss, eD⟩
          refine q D H' (s1.trans ss) (s1.free hD) ?_
          unfold pmI
          rw [if_neg (fun z => z.elim hx hy), hn]
          exact eD
end
end Vf

set_option maxRecDepth 100000
set_option maxHeartbeats 8000000
namespace Vf
open PySem PySem.Spec PyProof.Rows L2
/-! ### Polys out of rows -/
def RW (H : Hp) (l : Addr) (ps : List (Int × Int)) : Prop := ∃ as, H l = some (.lst (as.map V.ref)) ∧ Tups H as ps
def PolyQ (K : PySem.W.Frag) (CP : Addr) (H : Hp) (a : Addr) (qs : List Rat) : Prop := PolyAt K CP H a (qs.map pq)
theorem PolyQ.same {K : PySem.W.Frag} {CP : Addr} {H H' : Hp} {a : Addr} {qs : List Rat} (h : PolyQ K CP H a qs) (s : Same H H') : PolyQ K CP H' a qs := PolyAt.same h s
/-- what Poly(row) comes to -/
theorem poly_row {K : PySem.W.Frag} {CP CR : Addr} {H : Hp} {l : Addr} {ps : List (Int × Int)} {qs : List Rat} {Qd : Addr → Hp → Prop} {E : XK} (h : RW H l ps) (hl : ps.length ≤ 1000) (hp : ∀ p ∈ ps, 0 < p.2 ∧ p.2.natAbs < 2 ^ big) (hq : ps.map lowP = qs.map pq)
    (k : ∀ (x : Addr) (H' : Hp), Same H H' → H x = none → PolyQ K CP H' x (stripQ qs) → Qd x H') :
    ∀ x dx, H x = none → H dx = none → dx ≠ x → spPolyI K CP CR (.ref x :: ([V.ref l] ++ [])) (upd (upd H dx (.own x)) x (.ins CP dx [])) (fun w H2 => w = .non ∧ Qd x H2) E := by
  obtain ⟨as, e, t⟩ := h
  have rd : rowD (.list (ps.map pairD)) = some ps := mapM_of fun p h => parts_pairD (hp p h).1
  refine poly_made (d := .list (ps.map pairD)) (.lst (SqL.of e) t.dts) (fun ds' h => ?_) (fun ps' h => ?_) (fun z => by rw [rd] at z; cases z)
  · cases h
    rw [List.length_map]
    exact hl
  rw [rd] at h
  cases h
  refine ⟨fun p h => (hp p h).2, fun x H' s nx made => k x H' s nx ?_⟩
  rw [hq, strip_map] at made
  exact made
theorem poly_rl {K : PySem.W.Frag} {CP CR : Addr} {H : Hp} {l : Addr} {qs : List Rat} {Qd : Addr → Hp → Prop} {E : XK} (h : RL H l qs) (hl : qs.length ≤ 1000) (hz : ∀ q ∈ qs, q.den < 2 ^ big)
    (k : ∀ (x : Addr) (H' : Hp), Same H H' → H x = none → PolyQ K CP H' x (stripQ qs) → Qd x H') :
    ∀ x dx, H x = none → H dx = none → dx ≠ x → spPolyI K CP CR (.ref x :: ([V.ref l] ++ [])) (upd (upd H dx (.own x)) x (.ins CP dx [])) (fun w H2 => w = .non ∧ Qd x H2) E := by
  refine poly_row (ps := qs.map pq) h (by rw [List.length_map]; exact hl) (fun p hp => ?_) ?_ k
  · obtain ⟨q, hq, rfl⟩ := List.mem_map.mp hp
    have := q.den_pos
    refine ⟨by show (0 : Int) < (q.den : Int); omega, ?_⟩
    show (q.den : Int).natAbs < _
    rw [Int.natAbs_natCast]
    exact hz q hq
  · rw [List.map_map]
    refine List.map_congr_left fun q _ => ?_
    exact low_id (pq_low q)
def pmQ (a b : List Rat) : List Rat := if a = [] ∨ b = [] then [] else tab (a.length + b.length - 1) (pc a b)
theorem pmQ_strip (a b : List Rat) : stripQ (pmQ a b) = stripQ (pmul a b) := by
  refine stripQ_ext fun i => ?_
  rw [cf_pmul]
  unfold pmQ
  split
  · rename_i h
    rw [cf_nil]
    symm
    unfold pc
    refine sm_zero fun j _ => ?_
    rcases h with h | h <;> rw [h, cf_nil]
    · exact Rat.zero_mul _
    · exact Rat.mul_zero _
  · rw [cf_tab]
    split
    · rfl
    · rw [pc_zero (by omega)]
/-- products over one bottom -/
theorem pcI_over {a b : List Rat} {xs ys : List Int} {A B : Nat} (ha : ∀ i, cf a i * (A : Rat) = ((ci xs i : Int) : Rat)) (hb : ∀ i, cf b i * (B : Rat) = ((ci ys i : Int) : Rat)) (k : Nat) : pc a b k * (((A * B : Nat) : Int) : Rat) = ((pcI xs ys k : Int) : Rat) := by
  unfold pc pcI
  rw [smI_cast]
  have e : (((A * B : Nat) : Int) : Rat) = (A : Rat) * (B : Rat) := by exact_mod_cast rfl
  rw [e]
  have g : ∀ n, sm (fun i => cf a i * cf b (k - i)) n * ((A : Rat) * (B : Rat)) = sm (fun i => ((ci xs i * ci ys (k - i) : Int) : Rat)) n := fun n => by
    induction n with
    | zero => exact Rat.zero_mul _
    | succ n ih =>
      show (sm _ n + cf a n * cf b (k - n)) * _ = sm _ n + ((ci xs n * ci ys (k - n) : Int) : Rat)
      rw [Rat.add_mul, ih, Rat.intCast_mul, ← ha, ← hb]
      grind
  exact g _
def spProds (K : PySem.W.Frag) : Sp := fun vs H Q _ => ∃ (l1 l2 : Addr) (as bs : List Addr) (a b : List Rat), vs = [.ref l1, .ref l2] ∧ SqT K H l1 (as.map V.ref) ∧ Tups H as (a.map pq) ∧ SqT K H l2 (bs.map V.ref) ∧ Tups H bs (b.map pq) ∧ a.length ≤ 13 ∧ b.length ≤ 13 ∧ (∀ i, Sm (cf a i)) ∧ (∀ i, Sm (cf b i)) ∧
  ∀ (l : Addr) (ps : List (Int × Int)) (H' : Hp), Same H H' → RW H' l ps → ps.length ≤ 1000 → (∀ p ∈ ps, 0 < p.2 ∧ p.2.natAbs < 2 ^ big) → ps.map lowP = (pmQ a b).map pq → Q (.ref l) H'
section
variable {P : Program} {w : World} {K : PySem.W.Frag} {mg : Str → Option Value} {base : Heap} {CP CR CN : Addr}
abbrev sProds : Stmt := topS 29
theorem scProds : FnScope ["one", "other", "row", "bottom", "other_row", "other_bottom", "below", "top"] ["one", "other"] (defScope sProds) := ⟨rfl, rfl, rfl, by decide +kernel, rfl, by decide +kernel, by decide +kernel⟩
theorem ok_prods {f : Addr} {fd : FuncData} (F : Fun K "products_of" "products_of" sProds f fd) (Go : Df P w K mg base "over_one_bottom" 1 ["numbers"] (spOver K)) (Gr : Df P w K mg base "product_row" 2 ["one", "other"] (spPRow K)) : FnOk P w K mg base CX0 3 f fd ["one", "other"] (spProds K) := by
  refine F.ok scProds (fun vs H Q E h => ?_) (fun cdv A outer s H vs Q E hr h => ?_)
  · obtain ⟨l1, l2, as, bs, a, b, rfl, _⟩ := h
    rfl
  · obtain ⟨l1, l2, as, bs, a, b, rfl, e1, t1, e2, t2, la, lb, sa, sb, q⟩ := h
    refine ⟨_, (pss_cons (ps_asg (pe_call Go.ok (hr.mono (by decide)) rfl Go.m Go.kp Go.b .nil pass0 (pa_cons (pv 0) pa_nil)) (pg_tup (by rfl) (pgs_cons (pg_name (i := 2) scProds.nd rfl (Or.inl rfl)) (pgs_cons (pg_name (i := 3) scProds.nd rfl (Or.inl rfl)) pgs_nil))))
  (pss_cons (ps_asg (pe_call Go.ok (hr.mono (by decide)) rfl Go.m Go.kp Go.b .nil pass0 (pa_cons (pv 1) pa_nil)) (pg_tup (by rfl) (pgs_cons (pg_name (i := 4) scProds.nd rfl (Or.inl rfl)) (pgs_cons (pg_name (i := 5) scProds.nd rfl (Or.inl rfl)) pgs_nil))))
  (pss_cons (ps_set (i := 6) scProds.nd rfl (Or.inr rfl) (pe_op op_mulW (pv 3) (pv 5)))
  (pss_one (ps_ret (pe_lc (own := [("top", 7)]) (g := gName 7) (tt := tYes) rfl scProds.nd (pi_seq (pe_call Gr.ok (hr.mono (by decide)) rfl Gr.m Gr.kp Gr.b .nil pass0 (pa_cons (pv 2) (pa_cons (pv 4) pa_nil)))) (blkOk_by (N := ["one", "other", "row", "bottom", "other_row", "other_bottom", "below", "top"]) (sc := defScope sProds) (by decide +kernel)) (fun _ _ _ _ _ => pg_name (i := 7) scProds.nd rfl (Or.inl rfl)) (fun _ _ _ _ _ => pts_nil) (fun _ _ _ _ _ => (pe_tup (pa_cons (pv 7) (pa_cons (pv 6) pa_nil)))))))))), ?_⟩
    refine ⟨_, rfl, l1, as, a, rfl, e1, t1, la, sa, fun r xl xs A H1 s1 er1 ex1 A0 A156 nx fx bx => ?_⟩
    refine ⟨r, _, rfl, SqT.of er1, rfl, _, _, rfl, _, _, rfl, rfl, ?_⟩
    refine ⟨_, rfl, l2, bs, b, rfl, same_sqT s1 e2, t2.same s1, lb, sb, fun r' yl ys B H2 s2 er2 ey2 B0 B156 ny fy by' => ?_⟩
    refine ⟨r', _, rfl, SqT.of er2, rfl, _, _, rfl, _, _, rfl, rfl, ?_⟩
    have hA : A < 2 ^ 3900 := lt_4000 A156 (by decide)
    have hB : B < 2 ^ 3900 := lt_4000 B156 (by decide)
    refine ⟨_, rfl, _, rfl, _, _, rfl, rfl, big_mulW (by rw [Int.natAbs_natCast]; exact hA) (by rw [Int.natAbs_natCast]; exact hB), ?_⟩
    refine ⟨_, rfl, _, rfl, xl, yl, xs, ys, rfl, s2 _ _ ex1, ey2, by omega, by omega, fun i => lt_4000 (bx i) (by decide), fun i => lt_4000 (by' i) (by decide), fun l H3 s3 nl el => ?_⟩
    have AB : ((A : Int) * (B : Int)) = ((A * B : Nat) : Int) := (Int.natCast_mul A B).symm
    have AB0 : 0 < A * B := Nat.mul_pos A0 B0
    have ABb : A * B < 2 ^ big := by
      have h := Nat.mul_le_mul A156 B156
      rw [← Nat.pow_add] at h
      exact Nat.lt_of_le_of_lt h (Nat.pow_lt_pow_right (by decide) (by decide))
    have lns : (pmI xs ys).length ≤ 30 := by
      unfold pmI
      split
      · exact Nat.zero_le _
      · rw [tabI_len]; omega
    generalize hns : pmI xs ys = ns at el lns
    refine ⟨l, rfl, lc_seq (xs := ns.map V.int) (.inl (SqL.of el)) (fun D i H' => Same H3 H' ∧ ∃ zs, H' D = some (.lst (zs.map V.ref)) ∧ Tups H' zs ((tabI i (ci ns)).map fun n => (n, ((A : Int) * (B : Int))))) ?_ ?_ ?_ ?_⟩
    · intro D hD
      exact ⟨same_upd hD, [], upd_same, .nil⟩
    · intro D i H2 hD ⟨s2, _⟩
      exact ⟨same_sqL s2, same_sqT s2⟩
    · intro D i x H' hD hi ⟨ss, zs, eD, tz⟩
      have hi' : i < ns.length := by
        have := (List.getElem?_eq_some_iff.mp hi).1
        rw [List.length_map] at this
        exact this
      rw [RI.at (H := H) (l := l) hi'] at hi
      cases hi
      refine ⟨rfl, ?_⟩
      refine ⟨_, rfl, _, rfl, (by show 2 ≤ sizeLine; decide), fun t nt => ?_⟩
      have et : upd H' t (HO.tup [V.int (ci ns i), V.int ((A : Int) * (B : Int))]) t = some (HO.tup [V.int (ci ns i), V.int ((A : Int) * (B : Int))]) := upd_same
      have st : Same H' (upd H' t (HO.tup [V.int (ci ns i), V.int ((A : Int) * (B : Int))])) := same_upd nt
      generalize upd H' t (HO.tup [V.int (ci ns i), V.int ((A : Int) * (B : Int))]) = H4 at et st ⊢
      have eD' := st _ _ eD
      refine ⟨_, eD', ?_, (fun b' o' e' => ?_), zs ++ [t], ?_, ?_⟩
      · have := tz.len
        rw [List.length_map, tabI_len] at this
        rw [List.length_map, sizeLine_eq]
        omega
      · rw [upd_ne (ne_of_none e' hD)]
        exact st _ _ (ss _ _ e')
      · rw [upd_same, List.map_append]
        rfl
      · rw [tabI_snoc, List.map_append]
        have up : ∀ (c : Addr) (p : Int × Int), H4 c = some (.tup [.int p.1, .int p.2]) → upd H4 D (.lst (zs.map V.ref ++ [V.ref t])) c = some (.tup [.int p.1, .int p.2]) := fun c p z => by
          rw [upd_ne (ne_of z eD' (by intro z; cases z))]
          exact z
        exact ((tz.same st).imp up).snoc (up t (ci ns i, ((A : Int) * (B : Int))) et)
    · intro D H' hD ⟨ss, zs, eD, tz⟩
      rw [List.length_map] at tz
      refine q D _ H' (s1.trans (s2.trans (s3.trans ss))) ⟨zs, eD, tz⟩ (by rw [List.length_map, tabI_len]; omega) (fun p hp => ?_) ?_
      · obtain ⟨n, _, rfl⟩ := List.mem_map.mp hp
        refine ⟨by show (0 : Int) < ((A : Int) * (B : Int)); rw [AB]; omega, ?_⟩
        show (((A : Int) * (B : Int))).natAbs < _
        rw [AB, Int.natAbs_natCast]
        exact ABb
      · subst hns
        have emp : (a = [] ∨ b = []) ↔ (xs = [] ∨ ys = []) := by
          rw [← List.length_eq_zero_iff, ← List.length_eq_zero_iff, ← List.length_eq_zero_iff (l := xs), ← List.length_eq_zero_iff (l := ys), nx, ny]
        unfold pmI pmQ
        by_cases h : xs = [] ∨ ys = []
        · rw [if_pos h, if_pos (emp.mpr h)]
          rfl
        · rw [if_neg h, if_neg (fun z => h (emp.mp z)), tabI_len, nx, ny]
          unfold tab
          rw [List.map_map, List.map_map]
          unfold tabI
          rw [List.map_map]
          refine List.map_congr_left fun i hi => ?_
          have hi : i < a.length + b.length - 1 := List.mem_range.mp hi
          show low (ci (tabI (a.length + b.length - 1) (pcI xs ys)) i) ((A : Int) * (B : Int)) = pq (pc a b i)
          rw [ci_tab, if_pos (by omega), AB]
          exact low_mul (by omega) (pcI_over fx fy i)
end
end Vf

set_option maxRecDepth 100000
set_option maxHeartbeats 8000000
namespace Vf
open PySem PySem.Spec PyProof.Rows L2
/-! ### the methods of Poly -/
/-- an operand: a Poly, or a ratio in any terms -/
def Opd (K : PySem.W.Frag) (CP : Addr) (H : Hp) (v : V) (B : List Rat) : Prop := (∃ b, v = .ref b ∧ PolyQ K CP H b B) ∨ (∃ (d : PyData) (p : Int × Int) (q : Rat), Dt K H v d ∧ partsD d = some p ∧ lowP p = pq q ∧ p.2.natAbs < 2 ^ big ∧ B = stripQ [q])
def spAsP (K : PySem.W.Frag) (CP : Addr) : Sp := fun vs H Q _ => ∃ (v : V) (B : List Rat), vs = [v] ∧ Opd K CP H v B ∧ ∀ (x : Addr) (H' : Hp), Same H H' → PolyQ K CP H' x B → Q (.ref x) H'
def spBin (K : PySem.W.Frag) (CP : Addr) (g : List Rat → List Rat → List Rat) : Sp := fun vs H Q _ => ∃ (a : Addr) (v : V) (A B : List Rat), vs = [.ref a, v] ∧ PolyQ K CP H a A ∧ Opd K CP H v B ∧ A.length ≤ 13 ∧ B.length ≤ 13 ∧ (∀ i, Sm (cf A i)) ∧ (∀ i, Sm (cf B i)) ∧
  ∀ (x : Addr) (H' : Hp), Same H H' → PolyQ K CP H' x (stripQ (g A B)) → Q (.ref x) H'
def spNegP (K : PySem.W.Frag) (CP : Addr) : Sp := fun vs H Q _ => ∃ (a : Addr) (A : List Rat), vs = [.ref a] ∧ PolyQ K CP H a A ∧ A.length ≤ 500 ∧ (∀ q ∈ A, q.den < 2 ^ big) ∧ ∀ (x : Addr) (H' : Hp), Same H H' → PolyQ K CP H' x (stripQ (A.map (- ·))) → Q (.ref x) H'
theorem sm_z2 {q : Rat} (h : Sm q) : Z2 q := by
  have lt : ∀ k, k ≤ 13 → (2 : Nat) ^ k < 2 ^ 200 := fun k hk => Nat.pow_lt_pow_right (by decide) (by omega)
  refine ⟨Nat.lt_of_le_of_lt h.1 (lt 13 (by decide)), ?_⟩
  show (q.den : Int).natAbs < _
  rw [Int.natAbs_natCast]
  exact Nat.lt_of_le_of_lt h.2 (lt 12 (by decide))
theorem sm_neg {q : Rat} (h : Sm q) : Sm (-q) := by
  unfold Sm
  rw [Rat.neg_num, Rat.neg_den, Int.natAbs_neg]
  exact h
theorem den_add {a b : Rat} (ha : Sm a) (hb : Sm b) : (a + b).den < 2 ^ big := by
  have h1 := low_add a b
  have h2 := (low_size (t := a.num * b.den + b.num * a.den) (den_ne a b)).2
  rw [h1] at h2
  have h2 : ((a + b).den : Int).natAbs ≤ ((a.den : Int) * (b.den : Int)).natAbs := h2
  rw [Int.natAbs_natCast, Int.natAbs_mul, Int.natAbs_natCast, Int.natAbs_natCast] at h2
  have h3 : a.den * b.den ≤ 2 ^ 12 * 2 ^ 12 := Nat.mul_le_mul ha.2 hb.2
  rw [← Nat.pow_add] at h3
  exact Nat.lt_of_le_of_lt (Nat.le_trans h2 h3) (Nat.pow_lt_pow_right (by decide) (by decide))
theorem mem_tab {n : Nat} {f : Nat → Rat} {q : Rat} (h : q ∈ tab n f) : ∃ i, q = f i := by
  unfold tab at h
  obtain ⟨i, _, e⟩ := List.mem_map.mp h
  exact ⟨i, e.symm⟩
theorem cf_neg (B : List Rat) (i : Nat) : cf (B.map (- ·)) i = -cf B i := cf_map (f := fun q => -q) (by rfl) B i
theorem RS.ofT {K : PySem.W.Frag} {H : Hp} {l : Addr} {as : List Addr} {qs : List Rat} (h : SqT K H l (as.map V.ref)) (t : Tups H as (qs.map pq)) : RS K H l qs := ⟨as, .inr h, t⟩
section
variable {P : Program} {w : World} {K : PySem.W.Frag} {mg : Str → Option Value} {base : Heap} {CP CR CN : Addr}
/-- a suite that is never come to -/
theorem pss_no {X : Cx} {body : List Stmt} : PSs X body (fun _ _ _ => False) := ⟨fun _ _ _ _ _ _ h => h.elim⟩
abbrev sAsP : Stmt := topS 25
theorem scAsP : FnScope ["value"] ["value"] (defScope sAsP) := ⟨rfl, rfl, rfl, by decide +kernel, rfl, by decide +kernel, by decide +kernel⟩
theorem ok_asp {f : Addr} {fd : FuncData} (F : Fun K "as_poly" "as_poly" sAsP f fd) (T : Bk mg) (PM : PoM P w K mg base CP CR) (Gr : Df P w K mg base "is_ratio" 2 ["value"] (spIsRatio K)) : FnOk P w K mg base (L2.CX P w) 7 f fd ["value"] (spAsP K CP) := by
  refine F.okX scAsP (fun vs H Q E h => ?_) (fun cdv A outer s H vs Q E hr h => ?_)
  · obtain ⟨v, B, rfl, _⟩ := h
    rfl
  · obtain ⟨v, B, rfl, ho, q⟩ := h
    refine ⟨_, (pss_cons (ps_if (pt_val (pe_callB call_isi (by rfl) T.isinstance (by decide +kernel) (pa_cons (pv 0) (pa_cons (pe_glob (v := V.ref CP) rfl PM.C.m rfl) pa_nil))))
    (pss_one (ps_ret (pv 0)))
    pss_nil)
  (pss_one (ps_ret (pe_ifExp (pt_val (pe_call Gr.ok (hr.mono (by decide)) rfl Gr.m Gr.kp Gr.b .nil pass0 (pa_cons (pv 0) pa_nil))) (pe_make PM.mkI PM.okI (hr.mono (by decide)) rfl PM.C.m PM.bI .nil passL (pa_cons (pe_tup (pa_cons (pv 0) pa_nil)) pa_nil)) pe_non)))), ?_⟩
    rcases ho with ⟨b, rfl, hb⟩ | ⟨d, p, qq, hd, hp, hl, hz, rfl⟩
    · refine ⟨_, rfl, .ref b, .ref CP, _, .ref CP, _, rfl, .own _, PolyAt.ty PM.C hb, PM.C.io, _, rfl, ?_⟩
      refine iteT ?_
      exact ⟨_, rfl, q b H (Same.refl _) hb⟩
    · refine ⟨_, rfl, v, .ref CP, _, .ref CP, _, rfl, .own _, hd.ty, PM.C.no d, _, rfl, ?_⟩
      refine iteF ?_
      refine ⟨_, rfl, v, d, rfl, hd, fun H1 s1 => ⟨_, rfl, ?_⟩⟩
      rw [hp]
      refine iteT ?_
      refine ⟨_, rfl, (by show 1 ≤ sizeLine; decide), fun t nt => ?_⟩
      have et : upd H1 t (HO.tup [v]) t = some (HO.tup [v]) := upd_same
      have st : Same H1 (upd H1 t (HO.tup [v])) := same_upd nt
      have rd : rowD (.tuple [d]) = some [p] := by
        show [d].mapM partsD = _
        rw [List.mapM_cons, hp, List.mapM_nil]
        rfl
      refine poly_made (d := .tuple [d]) (.tup (SqT.of et) (.cons ((hd.mono s1).mono st) .nil)) (fun ds' h => by cases h; show 1 ≤ 1000; decide) (fun ps' h => ?_) (fun z => by rw [rd] at z; cases z)
      rw [rd] at h
      cases h
      refine ⟨fun p' hp' => by rw [List.mem_singleton.mp hp']; exact hz, fun x H' s' nx made => q x H' (s1.trans (st.trans s')) ?_⟩
      have e : [p].map lowP = [qq].map pq := by rw [List.map_cons, List.map_cons, hl]; rfl
      rw [e, strip_map] at made
      exact made
abbrev sPadd : Stmt := inClass (topS 24) 2
theorem scPadd : FnScope ["self", "other", "right"] ["self", "other"] (defScope sPadd) := ⟨rfl, rfl, rfl, by decide +kernel, rfl, by decide +kernel, by decide +kernel⟩
theorem ok_padd {f : Addr} {fd : FuncData} (F : Fun K "__add__" "Poly.__add__" sPadd f fd) (T : Bk mg) (PM : PoM P w K mg base CP CR) (Ga : Dx P w K mg base "as_poly" 7 ["value"] (spAsP K CP)) (Gs : Dx P w K mg base "sums_of" 5 ["one", "other"] (spSums K)) : FnOk P w K mg base (L2.CX P w) 8 f fd ["self", "other"] (spBin K CP (fun A B => padd A B)) := by
  refine F.okX scPadd (fun vs H Q E h => ?_) (fun cdv A0 outer s H vs Q E hr h => ?_)
  · obtain ⟨a, v, A, B, rfl, _⟩ := h
    rfl
  · obtain ⟨a, v, A, B, rfl, ⟨dx, t, as, h1, h2, h3⟩, ho, lA, lB, sA, sB, q⟩ := h
    refine ⟨_, (pss_cons (ps_set (i := 2) scPadd.nd rfl (Or.inl rfl) (pe_call Ga.ok (hr.mono (by decide)) rfl Ga.m Ga.kp Ga.b .nil passL (pa_cons (pv 1) pa_nil)))
  (pss_cons (ps_if (pt_cmpR op_isN (pv 2) pe_non (nomark _)) pss_no pss_nil)
  (pss_one (ps_ret (pe_make PM.mkI PM.okI (hr.mono (by decide)) rfl PM.C.m PM.bI .nil passL (pa_cons (pe_call Gs.ok (hr.mono (by decide)) rfl Gs.m Gs.kp Gs.b .nil passL (pa_cons (pe_fld (pv 0) rfl) (pa_cons (pe_fld (pv 2) rfl) pa_nil))) pa_nil)))))), ?_⟩
    refine ⟨_, rfl, v, B, rfl, ho, fun b H1 s1 hb => ?_⟩
    obtain ⟨dy, u, bs, g1, g2, g3⟩ := hb
    refine ⟨_, rfl, rfl, _, rfl, ?_⟩
    refine iteF ?_
    refine ⟨_, rfl, a, CP, dx, _, .ref t, rfl, s1 _ _ h1, PM.C.cl, PM.C.nf, (by kernel_rfl), _, rfl, b, CP, dy, _, .ref u, rfl, g1, PM.C.cl, PM.C.nf, (by kernel_rfl), ?_⟩
    refine ⟨t, u, A, B, rfl, (RS.ofT (SqT.of (s1 _ _ h2)) (h3.same s1)), (RS.ofT (SqT.of g2) g3), by omega, by omega, fun i => sm_z2 (sA i), fun i => sm_z2 (sB i), fun l H2 s2 rl => ?_⟩
    refine poly_rl rl (by unfold padd; rw [tab_len]; omega) (fun qq hq => ?_) fun x H' s3 nx made => q x H' (s1.trans (s2.trans s3)) made
    obtain ⟨i, rfl⟩ := mem_tab hq
    exact den_add (sA i) (sB i)
abbrev sPradd : Stmt := inClass (topS 24) 3
theorem scPradd : FnScope ["self", "other", "left"] ["self", "other"] (defScope sPradd) := ⟨rfl, rfl, rfl, by decide +kernel, rfl, by decide +kernel, by decide +kernel⟩
theorem ok_pradd {f : Addr} {fd : FuncData} (F : Fun K "__radd__" "Poly.__radd__" sPradd f fd) (T : Bk mg) (PM : PoM P w K mg base CP CR) (Ga : Dx P w K mg base "as_poly" 7 ["value"] (spAsP K CP)) (Gs : Dx P w K mg base "sums_of" 5 ["one", "other"] (spSums K)) : FnOk P w K mg base (L2.CX P w) 8 f fd ["self", "other"] (spBin K CP (fun A B => padd B A)) := by
  refine F.okX scPradd (fun vs H Q E h => ?_) (fun cdv A0 outer s H vs Q E hr h => ?_)
  · obtain ⟨a, v, A, B, rfl, _⟩ := h
    rfl
  · obtain ⟨a, v, A, B, rfl, ⟨dx, t, as, h1, h2, h3⟩, ho, lA, lB, sA, sB, q⟩ := h
    refine ⟨_, (pss_cons (ps_set (i := 2) scPradd.nd rfl (Or.inl rfl) (pe_call Ga.ok (hr.mono (by decide)) rfl Ga.m Ga.kp Ga.b .nil passL (pa_cons (pv 1) pa_nil)))
  (pss_cons (ps_if (pt_cmpR op_isN (pv 2) pe_non (nomark _)) pss_no pss_nil)
  (pss_one (ps_ret (pe_make PM.mkI PM.okI (hr.mono (by decide)) rfl PM.C.m PM.bI .nil passL (pa_cons (pe_call Gs.ok (hr.mono (by decide)) rfl Gs.m Gs.kp Gs.b .nil passL (pa_cons (pe_fld (pv 2) rfl) (pa_cons (pe_fld (pv 0) rfl) pa_nil))) pa_nil)))))), ?_⟩
    refine ⟨_, rfl, v, B, rfl, ho, fun b H1 s1 hb => ?_⟩
    obtain ⟨dy, u, bs, g1, g2, g3⟩ := hb
    refine ⟨_, rfl, rfl, _, rfl, ?_⟩
    refine iteF ?_
    refine ⟨_, rfl, b, CP, dy, _, .ref u, rfl, g1, PM.C.cl, PM.C.nf, (by kernel_rfl), _, rfl, a, CP, dx, _, .ref t, rfl, s1 _ _ h1, PM.C.cl, PM.C.nf, (by kernel_rfl), ?_⟩
    refine ⟨u, t, B, A, rfl, (RS.ofT (SqT.of g2) g3), (RS.ofT (SqT.of (s1 _ _ h2)) (h3.same s1)), by omega, by omega, fun i => sm_z2 (sB i), fun i => sm_z2 (sA i), fun l H2 s2 rl => ?_⟩
    refine poly_rl rl (by unfold padd; rw [tab_len]; omega) (fun qq hq => ?_) fun x H' s3 nx made => q x H' (s1.trans (s2.trans s3)) made
    obtain ⟨i, rfl⟩ := mem_tab hq
    exact den_add (sB i) (sA i)
abbrev sPsub : Stmt := inClass (topS 24) 4
theorem scPsub : FnScope ["self", "other", "right"] ["self", "other"] (defScope sPsub) := ⟨rfl, rfl, rfl, by decide +kernel, rfl, by decide +kernel, by decide +kernel⟩
theorem ok_psub {f : Addr} {fd : FuncData} (F : Fun K "__sub__" "Poly.__sub__" sPsub f fd) (T : Bk mg) (PM : PoM P w K mg base CP CR) (Ga : Dx P w K mg base "as_poly" 7 ["value"] (spAsP K CP)) (Gs : Dx P w K mg base "sums_of" 5 ["one", "other"] (spSums K)) (Gn : Df P w K mg base "opposites_of" 1 ["numbers"] (spOpp K)) : FnOk P w K mg base (L2.CX P w) 8 f fd ["self", "other"] (spBin K CP (fun A B => padd A (B.map (- ·)))) := by
  refine F.okX scPsub (fun vs H Q E h => ?_) (fun cdv A0 outer s H vs Q E hr h => ?_)
  · obtain ⟨a, v, A, B, rfl, _⟩ := h
    rfl
  · obtain ⟨a, v, A, B, rfl, ⟨dx, t, as, h1, h2, h3⟩, ho, lA, lB, sA, sB, q⟩ := h
    refine ⟨_, (pss_cons (ps_set (i := 2) scPsub.nd rfl (Or.inl rfl) (pe_call Ga.ok (hr.mono (by decide)) rfl Ga.m Ga.kp Ga.b .nil passL (pa_cons (pv 1) pa_nil)))
  (pss_cons (ps_if (pt_cmpR op_isN (pv 2) pe_non (nomark _)) pss_no pss_nil)
  (pss_one (ps_ret (pe_make PM.mkI PM.okI (hr.mono (by decide)) rfl PM.C.m PM.bI .nil passL (pa_cons (pe_call Gs.ok (hr.mono (by decide)) rfl Gs.m Gs.kp Gs.b .nil passL (pa_cons (pe_fld (pv 0) rfl) (pa_cons (pe_call Gn.ok (hr.mono (by decide)) rfl Gn.m Gn.kp Gn.b .nil pass0 (pa_cons (pe_fld (pv 2) rfl) pa_nil)) pa_nil))) pa_nil)))))), ?_⟩
    refine ⟨_, rfl, v, B, rfl, ho, fun b H1 s1 hb => ?_⟩
    obtain ⟨dy, u, bs, g1, g2, g3⟩ := hb
    refine ⟨_, rfl, rfl, _, rfl, ?_⟩
    refine iteF ?_
    refine ⟨_, rfl, a, CP, dx, _, .ref t, rfl, s1 _ _ h1, PM.C.cl, PM.C.nf, (by kernel_rfl), _, rfl, b, CP, dy, _, .ref u, rfl, g1, PM.C.cl, PM.C.nf, (by kernel_rfl), ?_⟩
    refine ⟨u, B, rfl, (RS.ofT (SqT.of g2) g3), by omega, fun l0 H1b sb rb => ?_⟩
    refine ⟨t, l0, A, B.map (- ·), rfl, RS.same (RS.ofT (SqT.of (s1 _ _ h2)) (h3.same s1)) sb, .of rb, by omega, by rw [List.length_map]; omega, fun i => sm_z2 (sA i), fun i => by rw [cf_neg]; exact sm_z2 (sm_neg (sB i)), fun l H2 s2 rl => ?_⟩
    refine poly_rl rl (by unfold padd; rw [tab_len, List.length_map]; omega) (fun qq hq => ?_) fun x H' s3 nx made => q x H' (s1.trans (sb.trans (s2.trans s3))) made
    obtain ⟨i, rfl⟩ := mem_tab hq
    rw [cf_neg]
    exact den_add (sA i) (sm_neg (sB i))
abbrev sPrsub : Stmt := inClass (topS 24) 5
theorem scPrsub : FnScope ["self", "other", "left"] ["self", "other"] (defScope sPrsub) := ⟨rfl, rfl, rfl, by decide +kernel, rfl, by decide +kernel, by decide +kernel⟩
theorem ok_prsub {f : Addr} {fd : FuncData} (F : Fun K "__rsub__" "Poly.__rsub__" sPrsub f fd) (T : Bk mg) (PM : PoM P w K mg base CP CR) (Ga : Dx P w K mg base "as_poly" 7 ["value"] (spAsP K CP)) (Gs : Dx P w K mg base "sums_of" 5 ["one", "other"] (spSums K)) (Gn : Df P w K mg base "opposites_of" 1 ["numbers"] (spOpp K)) : FnOk P w K mg base (L2.CX P w) 8 f fd ["self", "other"] (spBin K CP (fun A B => padd B (A.map (- ·)))) := by
  refine F.okX scPrsub (fun vs H Q E h => ?_) (fun cdv A0 outer s H vs Q E hr h => ?_)
  · obtain ⟨a, v, A, B, rfl, _⟩ := h
    rfl
  · obtain ⟨a, v, A, B, rfl, ⟨dx, t, as, h1, h2, h3⟩, ho, lA, lB, sA, sB, q⟩ := h
    refine ⟨_, (pss_cons (ps_set (i := 2) scPrsub.nd rfl (Or.inl rfl) (pe_call Ga.ok (hr.mono (by decide)) rfl Ga.m Ga.kp Ga.b .nil passL (pa_cons (pv 1) pa_nil)))
  (pss_cons (ps_if (pt_cmpR op_isN (pv 2) pe_non (nomark _)) pss_no pss_nil)
  (pss_one (ps_ret (pe_make PM.mkI PM.okI (hr.mono (by decide)) rfl PM.C.m PM.bI .nil passL (pa_cons (pe_call Gs.ok (hr.mono (by decide)) rfl Gs.m Gs.kp Gs.b .nil passL (pa_cons (pe_fld (pv 2) rfl) (pa_cons (pe_call Gn.ok (hr.mono (by decide)) rfl Gn.m Gn.kp Gn.b .nil pass0 (pa_cons (pe_fld (pv 0) rfl) pa_nil)) pa_nil))) pa_nil)))))), ?_⟩
    refine ⟨_, rfl, v, B, rfl, ho, fun b H1 s1 hb => ?_⟩
    obtain ⟨dy, u, bs, g1, g2, g3⟩ := hb
    refine ⟨_, rfl, rfl, _, rfl, ?_⟩
    refine iteF ?_
    refine ⟨_, rfl, b, CP, dy, _, .ref u, rfl, g1, PM.C.cl, PM.C.nf, (by kernel_rfl), _, rfl, a, CP, dx, _, .ref t, rfl, s1 _ _ h1, PM.C.cl, PM.C.nf, (by kernel_rfl), ?_⟩
    refine ⟨t, A, rfl, (RS.ofT (SqT.of (s1 _ _ h2)) (h3.same s1)), by omega, fun l0 H1b sb rb => ?_⟩
    refine ⟨u, l0, B, A.map (- ·), rfl, RS.same (RS.ofT (SqT.of g2) g3) sb, .of rb, by omega, by rw [List.length_map]; omega, fun i => sm_z2 (sB i), fun i => by rw [cf_neg]; exact sm_z2 (sm_neg (sA i)), fun l H2 s2 rl => ?_⟩
    refine poly_rl rl (by unfold padd; rw [tab_len, List.length_map]; omega) (fun qq hq => ?_) fun x H' s3 nx made => q x H' (s1.trans (sb.trans (s2.trans s3))) made
    obtain ⟨i, rfl⟩ := mem_tab hq
    rw [cf_neg]
    exact den_add (sB i) (sm_neg (sA i))
abbrev sPmul : Stmt := inClass (topS 24) 6
theorem scPmul : FnScope ["self", "other", "right"] ["self", "other"] (defScope sPmul) := ⟨rfl, rfl, rfl, by decide +kernel, rfl, by decide +kernel, by decide +kernel⟩
theorem ok_pmul {f : Addr} {fd : FuncData} (F : Fun K "__mul__" "Poly.__mul__" sPmul f fd) (T : Bk mg) (PM : PoM P w K mg base CP CR) (Ga : Dx P w K mg base "as_poly" 7 ["value"] (spAsP K CP)) (Gm : Df P w K mg base "products_of" 3 ["one", "other"] (spProds K)) : FnOk P w K mg base (L2.CX P w) 8 f fd ["self", "other"] (spBin K CP (fun A B => pmul A B)) := by
  refine F.okX scPmul (fun vs H Q E h => ?_) (fun cdv A0 outer s H vs Q E hr h => ?_)
  · obtain ⟨a, v, A, B, rfl, _⟩ := h
    rfl
  · obtain ⟨a, v, A, B, rfl, ⟨dx, t, as, h1, h2, h3⟩, ho, lA, lB, sA, sB, q⟩ := h
    refine ⟨_, (pss_cons (ps_set (i := 2) scPmul.nd rfl (Or.inl rfl) (pe_call Ga.ok (hr.mono (by decide)) rfl Ga.m Ga.kp Ga.b .nil passL (pa_cons (pv 1) pa_nil)))
  (pss_cons (ps_if (pt_cmpR op_isN (pv 2) pe_non (nomark _)) pss_no pss_nil)
  (pss_one (ps_ret (pe_make PM.mkI PM.okI (hr.mono (by decide)) rfl PM.C.m PM.bI .nil passL (pa_cons (pe_call Gm.ok (hr.mono (by decide)) rfl Gm.m Gm.kp Gm.b .nil pass0 (pa_cons (pe_fld (pv 0) rfl) (pa_cons (pe_fld (pv 2) rfl) pa_nil))) pa_nil)))))), ?_⟩
    refine ⟨_, rfl, v, B, rfl, ho, fun b H1 s1 hb => ?_⟩
    obtain ⟨dy, u, bs, g1, g2, g3⟩ := hb
    refine ⟨_, rfl, rfl, _, rfl, ?_⟩
    refine iteF ?_
    refine ⟨_, rfl, a, CP, dx, _, .ref t, rfl, s1 _ _ h1, PM.C.cl, PM.C.nf, (by kernel_rfl), _, rfl, b, CP, dy, _, .ref u, rfl, g1, PM.C.cl, PM.C.nf, (by kernel_rfl), ?_⟩
    refine ⟨t, u, as, bs, A, B, rfl, SqT.of (s1 _ _ h2), h3.same s1, SqT.of g2, g3, lA, lB, sA, sB, fun l ps H2 s2 rw' lps hps elp => ?_⟩
    refine poly_row rw' lps hps elp fun x H' s3 nx made => q x H' (s1.trans (s2.trans s3)) ?_
    rw [pmQ_strip] at made
    exact made
abbrev sPrmul : Stmt := inClass (topS 24) 7
theorem scPrmul : FnScope ["self", "other", "left"] ["self", "other"] (defScope sPrmul) := ⟨rfl, rfl, rfl, by decide +kernel, rfl, by decide +kernel, by decide +kernel⟩
theorem ok_prmul {f : Addr} {fd : FuncData} (F : Fun K "__rmul__" "Poly.__rmul__" sPrmul f fd) (T : Bk mg) (PM : PoM P w K mg base CP CR) (Ga : Dx P w K mg base "as_poly" 7 ["value"] (spAsP K CP)) (Gm : Df P w K mg base "products_of" 3 ["one", "other"] (spProds K)) : FnOk P w K mg base (L2.CX P w) 8 f fd ["self", "other"] (spBin K CP (fun A B => pmul B A)) := by
  refine F.okX scPrmul (fun vs H Q E h => ?_) (fun cdv A0 outer s H vs Q E hr h => ?_)
  · obtain ⟨a, v, A, B, rfl, _⟩ := h
    rfl
  · obtain ⟨a, v, A, B, rfl, ⟨dx, t, as, h1, h2, h3⟩, ho, lA, lB, sA, sB, q⟩ := h
    refine ⟨_, (pss_cons (ps_set (i := 2) scPrmul.nd rfl (Or.inl rfl) (pe_call Ga.ok (hr.mono (by decide)) rfl Ga.m Ga.kp Ga.b .nil passL (pa_cons (pv 1) pa_nil)))
  (pss_cons (ps_if (pt_cmpR op_isN (pv 2) pe_non (nomark _)) pss_no pss_nil)
  (pss_one (ps_ret (pe_make PM.mkI PM.okI (hr.mono (by decide)) rfl PM.C.m PM.bI .nil passL (pa_cons (pe_call Gm.ok (hr.mono (by decide)) rfl Gm.m Gm.kp Gm.b .nil pass0 (pa_cons (pe_fld (pv 2) rfl) (pa_cons (pe_fld (pv 0) rfl) pa_nil))) pa_nil)))))), ?_⟩
    refine ⟨_, rfl, v, B, rfl, ho, fun b H1 s1 hb => ?_⟩
    obtain ⟨dy, u, bs, g1, g2, g3⟩ := hb
    refine ⟨_, rfl, rfl, _, rfl, ?_⟩
    refine iteF ?_
    refine ⟨_, rfl, b, CP, dy, _, .ref u, rfl, g1, PM.C.cl, PM.C.nf, (by kernel_rfl), _, rfl, a, CP, dx, _, .ref t, rfl, s1 _ _ h1, PM.C.cl, PM.C.nf, (by kernel_rfl), ?_⟩
    refine ⟨u, t, bs, as, B, A, rfl, SqT.of g2, g3, SqT.of (s1 _ _ h2), h3.same s1, lB, lA, sB, sA, fun l ps H2 s2 rw' lps hps elp => ?_⟩
    refine poly_row rw' lps hps elp fun x H' s3 nx made => q x H' (s1.trans (s2.trans s3)) ?_
    rw [pmQ_strip] at made
    exact made
abbrev sPNeg : Stmt := inClass (topS 24) 8
theorem scPNeg : FnScope ["self"] ["self"] (defScope sPNeg) := ⟨rfl, rfl, rfl, by decide +kernel, rfl, by decide +kernel, by decide +kernel⟩
theorem ok_pneg {f : Addr} {fd : FuncData} (F : Fun K "__neg__" "Poly.__neg__" sPNeg f fd) (PM : PoM P w K mg base CP CR) (Gn : Df P w K mg base "opposites_of" 1 ["numbers"] (spOpp K)) : FnOk P w K mg base (L2.CX P w) 7 f fd ["self"] (spNegP K CP) := by
  refine F.okX scPNeg (fun vs H Q E h => ?_) (fun cdv A0 outer s H vs Q E hr h => ?_)
  · obtain ⟨a, A, rfl, _⟩ := h
    rfl
  · obtain ⟨a, A, rfl, ⟨dx, t, as, h1, h2, h3⟩, lA, zA, q⟩ := h
    refine ⟨_, (pss_one (ps_ret (pe_make PM.mkI PM.okI (hr.mono (by decide)) rfl PM.C.m PM.bI .nil passL (pa_cons (pe_call Gn.ok (hr.mono (by decide)) rfl Gn.m Gn.kp Gn.b .nil pass0 (pa_cons (pe_fld (pv 0) rfl) pa_nil)) pa_nil)))), ?_⟩
    refine ⟨_, rfl, a, CP, dx, _, .ref t, rfl, h1, PM.C.cl, PM.C.nf, (by kernel_rfl), ?_⟩
    refine ⟨t, A, rfl, RS.ofT (SqT.of h2) h3, lA, fun l H1 s1 rl => ?_⟩
    refine poly_rl rl (by rw [List.length_map]; omega) (fun qq hq => ?_) fun x H' s3 nx made => q x H' (s1.trans s3) made
    obtain ⟨q0, h0, rfl⟩ := List.mem_map.mp hq
    rw [Rat.neg_den]
    exact zA q0 h0
end
end Vf

set_option maxRecDepth 100000
set_option maxHeartbeats 8000000
namespace Vf
open PySem PySem.Spec PyProof.Rows L2
/-! ### values, slopes, moving -/
def spPOv (K : PySem.W.Frag) (CP : Addr) : Sp := fun vs H Q _ => ∃ (l : Addr) (ns : List Int) (M : Int) (qs : List Rat), vs = [.ref l, .int M] ∧ RI H l ns ∧ 0 < M ∧ M.natAbs < 2 ^ big ∧ ns.length ≤ 1000 ∧ qs.length = ns.length ∧ (∀ i, cf qs i * (M : Rat) = ((ci ns i : Int) : Rat)) ∧
  ∀ (x : Addr) (H' : Hp), Same H H' → PolyQ K CP H' x (stripQ qs) → Q (.ref x) H'
/-- a ratio as it is passed -/
def Arg (p : Int × Int) (x : Rat) : Prop := lowP p = pq x ∧ p.2.natAbs < 2 ^ big ∧ x.num.natAbs ≤ 2 ^ 12 ∧ x.den ≤ 2 ^ 12
def spAt (K : PySem.W.Frag) (CP CN : Addr) : Sp := fun vs H Q E => ∃ (a : Addr) (v : V) (d : PyData) (A : List Rat), vs = [.ref a, v] ∧ PolyQ K CP H a A ∧ A.length ≤ 13 ∧ (∀ i, Sm (cf A i)) ∧ Dt K H v d ∧
  (∀ p, partsD d = some p → ∃ x, Arg p x ∧ ∀ (r : Addr) (H' : Hp), Same H H' → TR H' r (hor x A) → Q (.ref r) H') ∧ (partsD d = none → RaisesN CN H (.str "point") v E)
def spSlope (K : PySem.W.Frag) (CP : Addr) : Sp := fun vs H Q _ => ∃ (a : Addr) (A : List Rat), vs = [.ref a] ∧ PolyQ K CP H a A ∧ A.length ≤ 13 ∧ (∀ i, Sm (cf A i)) ∧ ∀ (x : Addr) (H' : Hp), Same H H' → PolyQ K CP H' x (stripQ (pslope A)) → Q (.ref x) H'
theorem arg_top {p : Int × Int} {x : Rat} {H : Hp} {r : Addr} (h : Arg p x) (e : H r = some (.tup [.int (low p.1 p.2).1, .int (low p.1 p.2).2])) : TR H r x := by
  unfold TR
  rw [e]
  have z := h.1
  unfold lowP at z
  rw [z]
  rfl
theorem hor_over {c h x X N V S b B : Rat} (e1 : c * B = N) (e2 : x * b = X) (e3 : h * (B * S) = V * b) : (h * x + c) * (B * (S * b)) = (V * X + N * S) * b := by
  rw [← e1, ← e2]
  have : (V * (x * b) + c * B * S) * b = (V * b) * (x * b) + c * B * S * b := by grind
  rw [this, ← e3]
  grind
theorem size_step {v X n s : Int} {j : Nat} (hj : v.natAbs ≤ 2 ^ (170 + 13 * j)) (hX : X.natAbs ≤ 2 ^ 12) (hn : n.natAbs ≤ 2 ^ 169) (hs : s.natAbs ≤ 2 ^ (12 * j)) : (v * X + n * s).natAbs ≤ 2 ^ (170 + 13 * (j + 1)) := by
  have h1 : (v * X).natAbs ≤ 2 ^ (170 + 13 * j + 12) := by
    rw [Int.natAbs_mul, Nat.pow_add]
    exact Nat.mul_le_mul hj hX
  have h2 : (n * s).natAbs ≤ 2 ^ (169 + 12 * j) := by
    rw [Int.natAbs_mul, Nat.pow_add]
    exact Nat.mul_le_mul hn hs
  have h3 : (2 : Nat) ^ (169 + 12 * j) ≤ 2 ^ (170 + 13 * j + 12) := Nat.pow_le_pow_right (by decide) (by omega)
  have h4 : (2 : Nat) ^ (170 + 13 * (j + 1)) = 2 ^ (170 + 13 * j + 12) * 2 := by rw [← Nat.pow_succ]; congr 1
  have := Int.natAbs_add_le (v * X) (n * s)
  omega
theorem rev_ci {ns : List Int} {j : Nat} {y : V} (h : (ns.map V.int).reverse[j]? = some y) : y = .int (ci ns (ns.length - 1 - j)) ∧ j < ns.length := by
  have hj : j < ns.length := by
    have := (List.getElem?_eq_some_iff.mp h).1
    rw [List.length_reverse, List.length_map] at this
    exact this
  rw [List.getElem?_reverse (by rw [List.length_map]; exact hj), List.length_map, List.getElem?_map, ci_lt (by omega)] at h
  cases h
  exact ⟨rfl, hj⟩
section
variable {P : Program} {w : World} {K : PySem.W.Frag} {mg : Str → Option Value} {base : Heap} {CP CR CN : Addr}
abbrev sPOv : Stmt := topS 31
abbrev sAt : Stmt := inClass (topS 24) 11
abbrev sSlope : Stmt := inClass (topS 24) 12
abbrev sMoved : Stmt := inClass (topS 24) 13
theorem scPOv : FnScope ["row", "bottom", "top"] ["row", "bottom"] (defScope sPOv) := ⟨rfl, rfl, rfl, by decide +kernel, rfl, by decide +kernel, by decide +kernel⟩
theorem ok_pov {f : Addr} {fd : FuncData} (F : Fun K "poly_over" "poly_over" sPOv f fd) (PM : PoM P w K mg base CP CR) : FnOk P w K mg base (L2.CX P w) 7 f fd ["row", "bottom"] (spPOv K CP) := by
  refine F.okX scPOv (fun vs H Q E h => ?_) (fun cdv A0 outer s H vs Q E hr h => ?_)
  · obtain ⟨l, ns, M, qs, rfl, _⟩ := h
    rfl
  · obtain ⟨l, ns, M, qs, rfl, el, M0, Mb, ln, lq, hc, q⟩ := h
    refine ⟨_, (pss_one (ps_ret (pe_make PM.mkI PM.okI (hr.mono (by decide)) rfl PM.C.m PM.bI .nil passL (pa_cons (pe_lc (own := [("top", 2)]) (g := gName 2) (tt := tYes) rfl scPOv.nd (pi_seq (pv 0)) (blkOk_by (N := ["row", "bottom", "top"]) (sc := defScope sPOv) (by decide +kernel)) (fun _ _ _ _ _ => pg_name (i := 2) scPOv.nd rfl (Or.inl rfl)) (fun _ _ _ _ _ => pts_nil) (fun _ _ _ _ _ => (pe_tup (pa_cons (pv 2) (pa_cons (pv 1) pa_nil))))) pa_nil)))), ?_⟩
    refine ⟨_, rfl, l, rfl, lc_seq (xs := ns.map V.int) (.inl (SqL.of el)) (fun D i H' => Same H H' ∧ ∃ zs, H' D = some (.lst (zs.map V.ref)) ∧ Tups H' zs ((tabI i (ci ns)).map fun n => (n, M))) ?_ ?_ ?_ ?_⟩
    · intro D hD
      exact ⟨same_upd hD, [], upd_same, .nil⟩
    · intro D i H2 hD ⟨s2, _⟩
      exact ⟨same_sqL s2, same_sqT s2⟩
    · intro D i x H' hD hi ⟨ss, zs, eD, tz⟩
      have hi' : i < ns.length := by
        have := (List.getElem?_eq_some_iff.mp hi).1
        rw [List.length_map] at this
        exact this
      rw [RI.at (H := H) (l := l) hi'] at hi
      cases hi
      refine ⟨rfl, ?_⟩
      refine ⟨_, rfl, _, rfl, (by show 2 ≤ sizeLine; decide), fun t nt => ?_⟩
      have et : upd H' t (HO.tup [V.int (ci ns i), V.int M]) t = some (HO.tup [V.int (ci ns i), V.int M]) := upd_same
      have st : Same H' (upd H' t (HO.tup [V.int (ci ns i), V.int M])) := same_upd nt
      generalize upd H' t (HO.tup [V.int (ci ns i), V.int M]) = H4 at et st ⊢
      have eD' := st _ _ eD
      refine ⟨_, eD', ?_, (fun b' o' e' => ?_), zs ++ [t], ?_, ?_⟩
      · have := tz.len
        rw [List.length_map, tabI_len] at this
        rw [List.length_map, sizeLine_eq]
        omega
      · rw [upd_ne (ne_of_none e' hD)]
        exact st _ _ (ss _ _ e')
      · rw [upd_same, List.map_append]
        rfl
      · rw [tabI_snoc, List.map_append]
        have up : ∀ (c : Addr) (p : Int × Int), H4 c = some (.tup [.int p.1, .int p.2]) → upd H4 D (.lst (zs.map V.ref ++ [V.ref t])) c = some (.tup [.int p.1, .int p.2]) := fun c p z => by
          rw [upd_ne (ne_of z eD' (by intro z; cases z))]
          exact z
        exact ((tz.same st).imp up).snoc (up t (ci ns i, M) et)
    · intro D H' hD ⟨ss, zs, eD, tz⟩
      rw [List.length_map] at tz
      refine poly_row (qs := qs) ⟨zs, eD, tz⟩ (by rw [List.length_map, tabI_len]; exact ln) (fun p hp => ?_) ?_ fun x H2 s3 nx made => q x H2 (ss.trans s3) made
      · obtain ⟨n, _, rfl⟩ := List.mem_map.mp hp
        exact ⟨M0, Mb⟩
      · refine List.ext_getElem? fun i => ?_
        unfold tabI
        rw [List.map_map, List.map_map, List.getElem?_map, List.getElem?_map]
        by_cases h : i < ns.length
        · rw [List.getElem?_range h, List.getElem?_eq_getElem (show i < qs.length by omega)]
          show some (low (ci ns i) M) = some (pq qs[i])
          rw [← cf_lt (show i < qs.length by omega), low_mul (by omega) (hc i)]
        · rw [List.getElem?_eq_none_iff.mpr (by rw [List.length_range]; omega), List.getElem?_eq_none_iff.mpr (by omega)]
          rfl
theorem scAt : FnScope ["self", "point", "top", "bottom", "row", "below", "value", "scale", "number"] ["self", "point"] (defScope sAt) := ⟨rfl, rfl, rfl, by decide +kernel, rfl, by decide +kernel, by decide +kernel⟩
theorem ok_at {f : Addr} {fd : FuncData} (F : Fun K "at" "Poly.at" sAt f fd) (C : PoC K mg CP) (Gt : Dx P w K mg base "told" 4 ["value", "what"] (spTold K CN)) (Go : Df P w K mg base "over_one_bottom" 1 ["numbers"] (spOver K)) (Gl : Df P w K mg base "lowest" 1 ["top", "bottom"] spLow) : FnOk P w K mg base (L2.CX P w) 5 f fd ["self", "point"] (spAt K CP CN) := by
  refine F.okX scAt (fun vs H Q E h => ?_) (fun cdv A0 outer s H vs Q E hr h => ?_)
  · obtain ⟨a, v, d, A, rfl, _⟩ := h
    rfl
  · obtain ⟨a, v, d, A, rfl, ⟨dx, t, as, h1, h2, h3⟩, lA, sA, hd, q, er⟩ := h
    refine ⟨_, (pss_cons (ps_asg (pe_call Gt.ok (hr.mono (by decide)) rfl Gt.m Gt.kp Gt.b .nil (E := E) (passes_call (takes_of rfl rfl rfl rfl) (fun _ _ _ _ h => h)) (pa_cons (pv 1) (pa_cons pe_str pa_nil))) (pg_tup (by rfl) (pgs_cons (pg_name (i := 2) scAt.nd rfl (Or.inl rfl)) (pgs_cons (pg_name (i := 3) scAt.nd rfl (Or.inl rfl)) pgs_nil))))
      (PSs.nox (pss_cons (ps_asg (pe_call Go.ok (hr.mono (by decide)) rfl Go.m Go.kp Go.b .nil pass0 (pa_cons (pe_fld (pv 0) rfl) pa_nil)) (pg_tup (by rfl) (pgs_cons (pg_name (i := 4) scAt.nd rfl (Or.inl rfl)) (pgs_cons (pg_name (i := 5) scAt.nd rfl (Or.inl rfl)) pgs_nil))))
      (pss_cons (ps_set (i := 6) scAt.nd rfl (Or.inl rfl) pe_int)
      (pss_cons (ps_set (i := 7) scAt.nd rfl (Or.inl rfl) pe_int)
      (pss_cons (ps_for PassesOwn.never rfl (pi_list (pe_revL (pv 4))) (pg_name (i := 8) scAt.nd rfl (Or.inl rfl))
        (pss_cons (ps_set (i := 6) scAt.nd rfl (Or.inl rfl) (pe_op op_add (pe_op op_mulW (pv 6) (pv 2)) (pe_op op_mulW (pv 8) (pv 7))))
        (pss_one (ps_set (i := 7) scAt.nd rfl (Or.inl rfl) (pe_op op_mulW (pv 7) (pv 3))))))
      (pss_one (ps_ret (pe_call Gl.ok (hr.mono (by decide)) rfl Gl.m Gl.kp Gl.b .nil pass0 (pa_cons (pe_op op_mulW (pv 6) (pv 3)) (pa_cons (pe_op op_mulW (pv 5) (pv 7)) pa_nil))))))))))), ?_⟩
    refine ⟨_, rfl, v, .str "point", d, rfl, hd, fun t0 b0 hp => ?_, er⟩
    obtain ⟨x, ax, q⟩ := q _ hp
    refine ⟨ax.2.1, fun r H1 s1 e1 => ?_⟩
    have tr := arg_top ax e1
    obtain ⟨_, _, xn, xd⟩ := ax
    refine ⟨r, _, rfl, SqT.of tr, rfl, _, _, rfl, _, _, rfl, rfl, ?_⟩
    refine ⟨_, rfl, a, CP, dx, _, .ref t, rfl, s1 _ _ h1, C.cl, C.nf, (by kernel_rfl), ?_⟩
    refine ⟨t, as, A, rfl, SqT.of (s1 _ _ h2), h3.same s1, lA, sA, fun r' xl xs B H2 s2 er2 ex2 B0 B156 nx fx bx => ?_⟩
    refine ⟨r', _, rfl, SqT.of er2, rfl, _, _, rfl, _, _, rfl, rfl, ?_⟩
    refine ⟨_, rfl, xl, _, rfl, SqL.of ex2, fun lr nlr => ?_⟩
    have elr : upd H2 lr (HO.lst (xs.map V.int).reverse) lr = some (HO.lst (xs.map V.int).reverse) := upd_same
    have s3 : Same H2 (upd H2 lr (HO.lst (xs.map V.int).reverse)) := same_upd nlr
    generalize upd H2 lr (HO.lst (xs.map V.int).reverse) = H3 at elr s3 ⊢
    have bd : ((x.den : Int)).natAbs ≤ 2 ^ 12 := by rw [Int.natAbs_natCast]; exact xd
    have sz : ∀ {z : Int} {k : Nat}, z.natAbs ≤ 2 ^ k → k < 3900 → z.natAbs < 2 ^ 3900 := fun h1 h2 => lt_4000 h1 h2
    refine ⟨lr, rfl, ⟨_, SqL.of elr⟩, for_list (K := K) (a := lr) (xs := (xs.map V.int).reverse) (fun j σ H' => ∃ (val : Int) (v8 : Option V), σ = [some (.ref a), some v, some (.int x.num), some (.int (x.den : Int)), some (.ref xl), some (.int (B : Int)), some (.int val), some (.int ((x.den : Int) ^ j)), v8] ∧ Same H3 H' ∧ val.natAbs ≤ 2 ^ (170 + 13 * j) ∧ hor x (A.drop (A.length - j)) * ((B : Rat) * (((x.den : Int) ^ j : Int) : Rat)) = (val : Rat) * ((x.den : Nat) : Rat))
      ⟨0, none, rfl, Same.refl _, Nat.zero_le _, ?_⟩ (fun j σ H' _ ⟨_, _, _, ss, _⟩ => SqL.of (ss _ _ elr)) ?_ ?_⟩
    · rw [Nat.sub_zero, List.drop_length]
      show (0 : Rat) * _ = ((0 : Int) : Rat) * _
      rw [Rat.zero_mul, show ((0 : Int) : Rat) = 0 from rfl, Rat.zero_mul]
    · rintro j y σ H4 hj ⟨val, v8, rfl, s4, zv, hv⟩
      obtain ⟨rfl, hjl⟩ := rev_ci hj
      have hs : ((x.den : Int) ^ j).natAbs ≤ 2 ^ (12 * j) := by
        rw [Int.natAbs_pow, Nat.pow_mul]
        exact Nat.pow_le_pow_left bd _
      have k1 := sz zv (by omega)
      have k2 := sz (k := 12) xn (by decide)
      have k3 := sz (bx (xs.length - 1 - j)) (by decide)
      have k4 := sz hs (by omega)
      have k5 := sz bd (by decide)
      refine ⟨_, rfl, _, rfl, _, _, rfl, rfl, big_mulW k1 k2, _, rfl, _, rfl, _, _, rfl, rfl, big_mulW k3 k4, _, _, rfl, rfl, ?_⟩
      refine ⟨_, rfl, _, rfl, _, _, rfl, rfl, big_mulW k4 k5, ?_⟩
      refine ⟨val * x.num + ci xs (xs.length - 1 - j) * (x.den : Int) ^ j, some (.int (ci xs (xs.length - 1 - j))), ?_, s4, size_step zv xn (bx _) hs, ?_⟩
      · rw [Int.pow_succ]
        rfl
      · rw [hor_step (by omega), Int.pow_succ, Rat.intCast_mul, Rat.intCast_add, Rat.intCast_mul, Rat.intCast_mul]
        have e1 := fx (A.length - 1 - j)
        have e2 := num_den x
        rw [← nx] at e1
        rw [nx] at e1 ⊢
        exact hor_over e1 e2 hv
    · rintro σ H4 ⟨val, v8, rfl, s4, zv, hv⟩
      rw [List.length_reverse, List.length_map, nx] at zv hv ⊢
      rw [Nat.sub_self, List.drop_zero] at hv
      have hs : ((x.den : Int) ^ A.length).natAbs ≤ 2 ^ (12 * A.length) := by
        rw [Int.natAbs_pow, Nat.pow_mul]
        exact Nat.pow_le_pow_left bd _
      have k1 := sz zv (by omega)
      have k4 := sz hs (by omega)
      have k5 := sz bd (by decide)
      have k6 : ((B : Int)).natAbs < 2 ^ 3900 := by rw [Int.natAbs_natCast]; exact lt_4000 B156 (by decide)
      have d0 := x.den_pos
      have p0 : (0 : Int) < (x.den : Int) ^ A.length := Int.pow_pos (by omega)
      refine ⟨_, rfl, _, rfl, _, _, rfl, rfl, big_mulW k1 k5, _, rfl, _, rfl, _, _, rfl, rfl, big_mulW k6 k4, ?_⟩
      refine ⟨_, _, rfl, Int.ne_of_gt (Int.mul_pos (by omega) p0), ?_, fun r5 H5 s5 n5 e5 => ?_⟩
      · rw [Int.natAbs_mul, Int.natAbs_natCast]
        have h := Nat.mul_le_mul B156 hs
        rw [← Nat.pow_add] at h
        exact Nat.lt_of_le_of_lt h (Nat.pow_lt_pow_right (by decide) (by show 156 + 12 * A.length < 4000; omega))
      · have z := low_mul (A := val * (x.den : Int)) (M := (B : Int) * (x.den : Int) ^ A.length) (q := hor x A) (Int.ne_of_gt (Int.mul_pos (by omega) p0)) (by
          rw [Rat.intCast_mul, Rat.intCast_mul]
          exact hv)
        rw [z] at e5
        exact q r5 H5 (s1.trans (s2.trans (s3.trans (s4.trans s5)))) e5
end
end Vf

set_option maxRecDepth 100000
set_option maxHeartbeats 8000000
namespace Vf
open PySem PySem.Spec PyProof.Rows L2
/-! ### slopes, moving -/
theorem mvl_cf (s t c : Rat) (l : List Rat) (i : Nat) : cf (mvl s t (c :: l)) i = cf (mvl s t l) i * s + (if i = 0 then 0 else cf (mvl s t l) (i - 1) * t) + if i = 0 then c else 0 := by
  show cf (stripQ (padd (stripQ (pmul (mvl s t l) (stripQ [s, t]))) (stripQ [c]))) i = _
  rw [cf_stripQ, cf_padd, cf_stripQ, cf_pmul, pc_line (fun k hk => by rw [cf_pair, if_neg (by omega), if_neg (by omega)]), cf_one, cf_pair, cf_pair, if_pos (rfl : (0 : Nat) = 0), if_neg (by decide : ¬(1 : Nat) = 0), if_pos (rfl : (1 : Nat) = 1)]
theorem mvl_stp (s t : Rat) : ∀ a : List Rat, stripQ (mvl s t a) = mvl s t a
  | [] => rfl
  | c :: l => stripQ_id (stripQ_stp _)
theorem pcI_line (v : List Int) (x y : Int) : ∀ i, pcI v [x, y] i = ci v i * x + if i = 0 then 0 else ci v (i - 1) * y
  | 0 => by
    show (0 : Int) + ci v 0 * x = _
    rw [if_pos rfl]
    omega
  | k + 1 => by
    unfold pcI
    show smI (fun i => ci v i * ci [x, y] (k + 1 - i)) k + ci v k * ci [x, y] (k + 1 - k) + ci v (k + 1) * ci [x, y] (k + 1 - (k + 1)) = _
    rw [smI_zero fun i hi => by rw [ci_ge (l := [x, y]) (by show 2 ≤ _; omega), Int.mul_zero], if_neg (by omega), show k + 1 - k = 1 by omega, Nat.sub_self, Nat.add_sub_cancel]
    show 0 + ci v k * y + ci v (k + 1) * x = _
    omega
theorem ci_set {l : List Int} {i j : Nat} {x : Int} (h : i < l.length) : ci (l.set i x) j = if j = i then x else ci l j := by
  unfold ci
  rw [List.getD_eq_getElem?_getD, List.getD_eq_getElem?_getD, List.getElem?_set]
  by_cases e : i = j
  · rw [if_pos e, if_pos e.symm, if_pos h]
    rfl
  · rw [if_neg e, if_neg (fun z => e z.symm)]
theorem mv_over {m m' s t c BS bot v v' l0 l1 N S B : Rat} (eB : BS = B * S) (e1 : m * BS = v * bot) (e2 : m' * BS = v' * bot) (e3 : s * bot = l0) (e4 : t * bot = l1) (e5 : c * B = N) : (m * s + m' * t + c) * (B * (S * bot)) = (v * l0 + v' * l1 + N * S) * bot := by
  rw [← e3, ← e4, ← e5]
  have : (v * (s * bot) + v' * (t * bot) + c * B * S) * bot = (v * bot) * (s * bot) + (v' * bot) * (t * bot) + c * B * S * bot := by grind
  rw [this, ← e1, ← e2, eB]
  grind
theorem mv_size {v v' x y n s : Int} {j : Nat} (h1 : v.natAbs ≤ 2 ^ (170 + 38 * j)) (h2 : v'.natAbs ≤ 2 ^ (170 + 38 * j)) (hx : x.natAbs ≤ 2 ^ 36) (hy : y.natAbs ≤ 2 ^ 36) (hn : n.natAbs ≤ 2 ^ 169) (hs : s.natAbs ≤ 2 ^ (24 * j)) : (v * x + v' * y + n * s).natAbs ≤ 2 ^ (170 + 38 * (j + 1)) := by
  have g1 : (v * x).natAbs ≤ 2 ^ (170 + 38 * j + 36) := by
    rw [Int.natAbs_mul, Nat.pow_add]
    exact Nat.mul_le_mul h1 hx
  have g2 : (v' * y).natAbs ≤ 2 ^ (170 + 38 * j + 36) := by
    rw [Int.natAbs_mul, Nat.pow_add]
    exact Nat.mul_le_mul h2 hy
  have g3 : (n * s).natAbs ≤ 2 ^ (169 + 24 * j) := by
    rw [Int.natAbs_mul, Nat.pow_add]
    exact Nat.mul_le_mul hn hs
  have g4 : (2 : Nat) ^ (169 + 24 * j) ≤ 2 ^ (170 + 38 * j + 36) := Nat.pow_le_pow_right (by decide) (by omega)
  have g5 : (2 : Nat) ^ (170 + 38 * (j + 1)) = 2 ^ (170 + 38 * j + 36) * 4 := by
    rw [show (4 : Nat) = 2 ^ 2 from rfl, ← Nat.pow_add]
    congr 1
  have a1 := Int.natAbs_add_le (v * x + v' * y) (n * s)
  have a2 := Int.natAbs_add_le (v * x) (v' * y)
  omega
def spMoved (K : PySem.W.Frag) (CP CN : Addr) : Sp := fun vs H Q E => ∃ (a : Addr) (v u : V) (d e : PyData) (A : List Rat), vs = [.ref a, v, u] ∧ PolyQ K CP H a A ∧ A.length ≤ 13 ∧ (∀ i, Sm (cf A i)) ∧ Dt K H v d ∧ Dt K H u e ∧
  (∀ p, partsD d = some p → p.2.natAbs < 2 ^ big ∧ (∀ p', partsD e = some p' → ∃ s t, Arg p s ∧ Arg p' t ∧ ∀ (x : Addr) (H' : Hp), Same H H' → PolyQ K CP H' x (mvl s t A) → Q (.ref x) H') ∧ (partsD e = none → RaisesN CN H (.str "step") u E)) ∧ (partsD d = none → RaisesN CN H (.str "start") v E)
section
variable {P : Program} {w : World} {K : PySem.W.Frag} {mg : Str → Option Value} {base : Heap} {CP CR CN : Addr}
theorem pe_fldK {X : Cx} {e : Expr} {f : Str} {pos : Pos} {ta : TE} {K : PySem.W.Frag} (hk : X.K = K) (he : PE X e ta) (hb : attributeBase e f X.env (eval e X.env) = eval e X.env) : PE X (.Attribute e f pos) (tFld K ta f) := by
  subst hk
  exact pe_fld he hb
theorem scSlope : FnScope ["self", "power"] ["self"] (defScope sSlope) := ⟨rfl, rfl, rfl, by decide +kernel, rfl, by decide +kernel, by decide +kernel⟩
theorem ok_slope {f : Addr} {fd : FuncData} (F : Fun K "slope" "Poly.slope" sSlope f fd) (T : Bk mg) (PM : PoM P w K mg base CP CR) (Gm : Dx P w K mg base "times" 4 ["one", "other"] (spTwo K CN (okLow gTimes))) : FnOk P w K mg base (L2.CX P w) 7 f fd ["self"] (spSlope K CP) := by
  refine F.okX scSlope (fun vs H Q E h => ?_) (fun cdv A0 outer s H vs Q E hr h => ?_)
  · obtain ⟨a, A, rfl, _⟩ := h
    rfl
  · obtain ⟨a, A, rfl, ⟨dx, t, as, h1, h2, h3⟩, lA, sA, q⟩ := h
    refine ⟨_, (pss_one (ps_ret (pe_make PM.mkI PM.okI (hr.mono (by decide)) rfl PM.C.m PM.bI .nil passL (pa_cons (pe_lc (own := [("power", 1)]) (g := gName 1) (tt := tYes) rfl scSlope.nd (pi_range2 (by rfl) T.range (pa_cons pe_int (pa_cons (pe_callB call_len_seq (by rfl) T.len (by decide +kernel) (pa_cons (pe_fld (pv 0) rfl) pa_nil)) pa_nil))) (blkOk_by (N := ["self", "power"]) (sc := defScope sSlope) (by decide +kernel)) (fun _ _ _ _ _ => pg_name (i := 1) scSlope.nd rfl (Or.inl rfl)) (fun _ _ _ _ _ => pts_nil)
      (fun _ _ _ _ _ => (pe_call Gm.ok (hr.mono (by decide)) rfl Gm.m Gm.kp Gm.b .nil passL (pa_cons (pe_ix (r := rIxT K) ix_tup (pe_fldK (K := K) rfl (pv 0) rfl) (pv 1) (fun _ _ => rfl)) (pa_cons (pv 1) pa_nil))))) pa_nil)))), ?_⟩
    have n1 := h3.lenQ
    refine ⟨_, rfl, a, CP, dx, _, .ref t, rfl, h1, PM.C.cl, PM.C.nf, (by kernel_rfl), t, _, rfl, .inr (SqT.of h2), ?_⟩
    rw [List.length_map, n1]
    refine ⟨_, _, rfl, ⟨by omega, by omega, by omega, by omega⟩, fun D hD => lc_range (lo := 1) (n := ((A.length : Nat) - 1 : Int).toNat) (fun i H' => Same H H' ∧ ∃ zs, H' D = some (.lst (zs.map V.ref)) ∧ Tups H' zs ((tab i fun j => cf A (j + 1) * ((j + 1 : Nat) : Rat)).map pq)) ⟨same_upd hD, [], upd_same, .nil⟩ ?_ ?_⟩
    · rintro i H' hi ⟨ss, zs, eD, tz⟩
      have hi : i + 1 < A.length := by omega
      obtain ⟨ra, g1, g2⟩ := h3.getQ hi
      have ga : (as.map V.ref)[i + 1]? = some (V.ref ra) := by rw [List.getElem?_map, g1]; rfl
      refine ⟨rfl, ?_⟩
      refine ⟨_, rfl, a, CP, dx, _, .ref t, rfl, ss _ _ h1, PM.C.cl, PM.C.nf, (by kernel_rfl), _, rfl, t, _, _, .ref ra, rfl, rfl, SqT.of (ss _ _ h2), at_of (j := i + 1) (by omega) ga, _, rfl, ?_⟩
      have e1 : (1 + (i : Int)) = ((i + 1 : Nat) : Int) := by omega
      rw [e1]
      refine ⟨_, _, pairD (pq (cf A (i + 1))), .int ((i + 1 : Nat) : Int), rfl, .tup (SqT.of (ss _ _ g2)) (.cons (.int _) (.cons (.int _) .nil)), .int _, fun t' b' x c h5 h6 => ?_, (fun z => by rw [parts_q] at z; cases z), (fun _ z => by cases z)⟩
      rw [parts_q] at h5
      cases h5
      cases h6
      have zz := sm_z2 (sA (i + 1))
      refine ⟨zz.1, zz.2, ?_, (by show (1 : Int).natAbs < 2 ^ 200; decide +kernel), fun r' H'' s' er => ?_⟩
      · show (((i + 1 : Nat) : Int)).natAbs < 2 ^ 200
        rw [Int.natAbs_natCast]
        exact Nat.lt_of_lt_of_le (show i + 1 < 2 ^ 10 by omega) (Nat.pow_le_pow_right (by decide) (by decide))
      have er : TR H'' r' (cf A (i + 1) * ((i + 1 : Nat) : Rat)) := by
        have d0 := (cf A (i + 1)).den_pos
        have z := low_mul (A := (cf A (i + 1)).num * ((i + 1 : Nat) : Int)) (M := ((cf A (i + 1)).den : Int) * 1) (q := cf A (i + 1) * ((i + 1 : Nat) : Rat)) (by omega) (by
          rw [Int.mul_one, Rat.intCast_mul]
          have e := num_den (cf A (i + 1))
          have e2 : (((cf A (i + 1)).den : Int) : Rat) = ((cf A (i + 1)).den : Rat) := by exact_mod_cast rfl
          have e3 : ((((i + 1 : Nat) : Int)) : Rat) = ((i + 1 : Nat) : Rat) := by exact_mod_cast rfl
          rw [← e, e2, e3]
          grind)
        unfold gTimes at er
        rw [z] at er
        exact er
      have eD' := s' _ _ eD
      refine ⟨_, eD', ?_, (fun b' o' e' => ?_), zs ++ [r'], ?_, ?_⟩
      · have := tz.lenQ
        rw [tab_len] at this
        rw [List.length_map, sizeLine_eq]
        omega
      · rw [upd_ne (ne_of_none e' hD)]
        exact s' _ _ (ss _ _ e')
      · rw [upd_same, List.map_append]
        rfl
      · rw [tab_snoc]
        have up : ∀ (c : Addr) (p : Int × Int), H'' c = some (.tup [.int p.1, .int p.2]) → upd H'' D (.lst (zs.map V.ref ++ [V.ref r'])) c = some (.tup [.int p.1, .int p.2]) := fun c p z => by
          rw [upd_ne (ne_of z eD' (by intro z; cases z))]
          exact z
        exact Tups.snocQ ((tz.same s').imp up) (up _ (pq _) er)
    · rintro H' ⟨ss, zs, eD, tz⟩
      rw [show ((A.length : Nat) - 1 : Int).toNat = A.length - 1 by omega] at tz
      refine poly_rl ⟨zs, eD, tz⟩ (by rw [tab_len]; omega) (fun qq hq => ?_) fun x H2 s2 nx made => q x H2 (ss.trans s2) made
      obtain ⟨j, rfl⟩ := mem_tab hq
      have f1 := Fr.self (cf A (j + 1))
      have f2 : Fr 1 (j + 1) ((j + 1 : Nat) : Rat) := ⟨((j + 1 : Nat) : Int), by rw [show ((1 : Nat) : Rat) = 1 from rfl, Rat.mul_one]; exact_mod_cast rfl, by rw [Int.natAbs_natCast]; exact Nat.le_refl _⟩
      have f3 := ((f1.mul f2).size (by have := (cf A (j + 1)).den_pos; omega)).2
      rw [Nat.mul_one] at f3
      exact Nat.lt_of_le_of_lt (Nat.le_trans f3 (sA _).2) (Nat.pow_lt_pow_right (by decide) (by decide))
theorem scMoved : FnScope ["self", "start", "step", "start_top", "start_bottom", "step_top", "step_bottom", "bottom", "line", "row", "below", "values", "scale", "number", "value"] ["self", "start", "step"] (defScope sMoved) := ⟨rfl, rfl, rfl, by decide +kernel, rfl, by decide +kernel, by decide +kernel⟩
end
end Vf

set_option maxRecDepth 100000
set_option maxHeartbeats 8000000
namespace Vf
open PySem PySem.Spec PyProof.Rows L2
section
variable {P : Program} {w : World} {K : PySem.W.Frag} {mg : Str → Option Value} {base : Heap} {CP CR CN : Addr}
theorem ok_moved {f : Addr} {fd : FuncData} (F : Fun K "moved" "Poly.moved" sMoved f fd) (C : PoC K mg CP) (hlcm : mg "lcm" = some (.builtin "math.lcm")) (Gt : Dx P w K mg base "told" 4 ["value", "what"] (spTold K CN)) (Go : Df P w K mg base "over_one_bottom" 1 ["numbers"] (spOver K)) (Gr : Df P w K mg base "product_row" 2 ["one", "other"] (spPRow K)) (Gv : Dx P w K mg base "poly_over" 7 ["row", "bottom"] (spPOv K CP)) : FnOk P w K mg base (L2.CX P w) 8 f fd ["self", "start", "step"] (spMoved K CP CN) := by
  refine F.okX scMoved (fun vs H Q E h => ?_) (fun cdv A0 outer s0 H vs Q E hr h => ?_)
  · obtain ⟨a, v, u, d, e, A, rfl, _⟩ := h
    rfl
  · obtain ⟨a, v, u, d, e, A, rfl, ⟨dx, tt, as, h1, h2, h3⟩, lA, sA, hd, he, q, er⟩ := h
    refine ⟨_, (pss_cons (ps_asg (pe_call Gt.ok (hr.mono (by decide)) rfl Gt.m Gt.kp Gt.b .nil (E := E) (passes_call (takes_of rfl rfl rfl rfl) (fun _ _ _ _ h => h)) (pa_cons (pv 1) (pa_cons pe_str pa_nil))) (pg_tup (by rfl) (pgs_cons (pg_name (i := 3) scMoved.nd rfl (Or.inl rfl)) (pgs_cons (pg_name (i := 4) scMoved.nd rfl (Or.inl rfl)) pgs_nil))))
      (pss_cons (ps_asg (pe_call Gt.ok (hr.mono (by decide)) rfl Gt.m Gt.kp Gt.b .nil (E := E) (passes_call (takes_of rfl rfl rfl rfl) (fun _ _ _ _ h => h)) (pa_cons (pv 2) (pa_cons pe_str pa_nil))) (pg_tup (by rfl) (pgs_cons (pg_name (i := 5) scMoved.nd rfl (Or.inl rfl)) (pgs_cons (pg_name (i := 6) scMoved.nd rfl (Or.inl rfl)) pgs_nil))))
      (PSs.nox (pss_cons (ps_set (i := 7) scMoved.nd rfl (Or.inr rfl) (pe_callBfun cr_lcm (by rfl) hlcm (pa_cons (pv 4) (pa_cons (pv 6) pa_nil))))
      (pss_cons (ps_set (i := 8) scMoved.nd rfl (Or.inl rfl) (pe_lst (pa_cons (pe_op op_mulW (pv 3) (pe_op op_fdivW (pv 7) (pv 4))) (pa_cons (pe_op op_mulW (pv 5) (pe_op op_fdivW (pv 7) (pv 6))) pa_nil))))
      (pss_cons (ps_asg (pe_call Go.ok (hr.mono (by decide)) rfl Go.m Go.kp Go.b .nil pass0 (pa_cons (pe_fld (pv 0) rfl) pa_nil)) (pg_tup (by rfl) (pgs_cons (pg_name (i := 9) scMoved.nd rfl (Or.inl rfl)) (pgs_cons (pg_name (i := 10) scMoved.nd rfl (Or.inl rfl)) pgs_nil))))
      (pss_cons (ps_set (i := 11) scMoved.nd rfl (Or.inl rfl) (pe_lst (pa_cons pe_int pa_nil)))
      (pss_cons (ps_set (i := 12) scMoved.nd rfl (Or.inl rfl) pe_int)
      (pss_cons (ps_for PassesOwn.never rfl (pi_list (pe_revL (pv 9))) (pg_name (i := 13) scMoved.nd rfl (Or.inl rfl))
        (pss_cons (ps_set (i := 11) scMoved.nd rfl (Or.inl rfl) (pe_call Gr.ok (hr.mono (by decide)) rfl Gr.m Gr.kp Gr.b .nil pass0 (pa_cons (pv 11) (pa_cons (pv 8) pa_nil))))
        (pss_cons (ps_asg (pe_op op_add (pe_ix ix_list (pv 11) pe_int (fun _ _ => rfl)) (pe_op op_mulW (pv 13) (pv 12))) (pg_sub (pv 11) pe_int set_list))
        (pss_one (ps_set (i := 12) scMoved.nd rfl (Or.inl rfl) (pe_op op_mulW (pv 12) (pv 7)))))))
      (pss_one (ps_ret (pe_call Gv.ok (hr.mono (by decide)) rfl Gv.m Gv.kp Gv.b .nil passL (pa_cons (pe_lc (own := [("value", 14)]) (g := gName 14) (tt := tYes) rfl scMoved.nd (pi_seq (pv 11)) (blkOk_by (N := ["self", "start", "step", "start_top", "start_bottom", "step_top", "step_bottom", "bottom", "line", "row", "below", "values", "scale", "number", "value"]) (sc := defScope sMoved) (by decide +kernel)) (fun _ _ _ _ _ => pg_name (i := 14) scMoved.nd rfl (Or.inl rfl)) (fun _ _ _ _ _ => pts_nil) (fun _ _ _ _ _ => pe_op op_mulW (pv 14) (pv 7))) (pa_cons (pe_op op_mulW (pv 10) (pv 12)) pa_nil)))))))))))))), ?_⟩
    refine ⟨_, rfl, v, .str "start", d, rfl, hd, fun t0 b0 hp => ?_, er⟩
    obtain ⟨zb, q, er2⟩ := q _ hp
    refine ⟨zb, fun r H1 s1 e1 => ?_⟩
    refine ⟨r, _, rfl, SqT.of e1, rfl, _, _, rfl, _, _, rfl, rfl, ?_⟩
    refine ⟨_, rfl, u, .str "step", e, rfl, he.mono s1, fun t0' b0' hp' => ?_, fun z => (er2 z).same s1⟩
    obtain ⟨s, t, as', at', q⟩ := q _ hp'
    refine ⟨at'.2.1, fun r' H2 s2 e2 => ?_⟩
    have tr := arg_top at' e2
    have ss := arg_top as' e1
    have elow : ((low t0 b0).1, (low t0 b0).2) = pq s := as'.1
    have es1 : (low t0 b0).1 = s.num := congrArg Prod.fst elow
    have es2 : (low t0 b0).2 = (s.den : Int) := congrArg Prod.snd elow
    have elow' : ((low t0' b0').1, (low t0' b0').2) = pq t := at'.1
    have et1 : (low t0' b0').1 = t.num := congrArg Prod.fst elow'
    have et2 : (low t0' b0').2 = (t.den : Int) := congrArg Prod.snd elow'
    obtain ⟨_, _, sn, sd⟩ := as'
    obtain ⟨_, _, tn, td⟩ := at'
    refine ⟨r', _, rfl, SqT.of e2, rfl, _, _, rfl, _, _, rfl, rfl, ?_⟩
    simp only [es1, es2, et1, et2] at *
    have sd0 := s.den_pos
    have td0 := t.den_pos
    have bs : ((s.den : Int)).natAbs < 2 ^ 4000 := by rw [Int.natAbs_natCast]; exact Nat.lt_of_le_of_lt sd (Nat.pow_lt_pow_right (by decide) (by decide))
    have bt : ((t.den : Int)).natAbs < 2 ^ 4000 := by rw [Int.natAbs_natCast]; exact Nat.lt_of_le_of_lt td (Nat.pow_lt_pow_right (by decide) (by decide))
    refine ⟨_, rfl, _, rfl, _, _, rfl, bs, bt, ?_⟩
    simp only [Int.natAbs_natCast]
    have dv1 := Nat.dvd_lcm_left s.den t.den
    have dv2 := Nat.dvd_lcm_right s.den t.den
    have lp := Nat.lcm_pos sd0 td0
    have lle : s.den.lcm t.den ≤ 2 ^ 24 := by
      have h := Nat.le_trans (Nat.le_of_dvd (Nat.mul_pos sd0 td0) (Nat.lcm_dvd_mul s.den t.den)) (Nat.mul_le_mul sd td)
      rw [← Nat.pow_add] at h
      exact h
    generalize s.den.lcm t.den = bot at *
    have qd : ∀ {x : Rat}, ((bot : Int) / (x.den : Int)).natAbs ≤ 2 ^ 24 := fun {x} => by
      rw [← Int.natCast_ediv, Int.natAbs_natCast]
      exact Nat.le_trans (Nat.div_le_self _ _) lle
    have ql : ∀ {x : Rat}, x.num.natAbs ≤ 2 ^ 12 → (x.num * ((bot : Int) / (x.den : Int))).natAbs ≤ 2 ^ 36 := fun {x} h => by
      rw [Int.natAbs_mul, show (2 : Nat) ^ 36 = 2 ^ 12 * 2 ^ 24 from by decide +kernel]
      exact Nat.mul_le_mul h qd
    have hl0 := ql sn
    have hl1 := ql tn
    have ol0 := over_one dv1
    have ol1 := over_one dv2
    have cd : ∀ {x : Rat}, x.den ≤ 2 ^ 12 → CDivW (bot : Int) (x.den : Int) := fun {x} h => by
      have := x.den_pos
      refine ⟨by omega, ?_⟩
      rw [Int.natAbs_natCast]
      exact Nat.lt_trans (log_4000 (Nat.lt_of_le_of_lt h (Nat.pow_lt_pow_right (by decide) (by decide)))) (by decide)
    refine ⟨_, rfl, _, rfl, _, rfl, _, _, rfl, rfl, cd sd, _, _, rfl, rfl, big_mulW (lt_4000 sn (by decide)) (lt_4000 qd (by decide)), _, rfl, _, rfl, _, rfl, _, _, rfl, rfl, cd td, _, _, rfl, rfl, big_mulW (lt_4000 tn (by decide)) (lt_4000 qd (by decide)), (by show 2 ≤ sizeLine; decide), fun ll nll => ?_⟩
    dsimp only [] at nll ⊢
    generalize s.num * ((bot : Int) / (s.den : Int)) = l0 at *
    generalize t.num * ((bot : Int) / (t.den : Int)) = l1 at *
    have ell : upd H2 ll (HO.lst [V.int l0, V.int l1]) ll = some (HO.lst [V.int l0, V.int l1]) := upd_same
    have s3 : Same H2 (upd H2 ll (HO.lst [V.int l0, V.int l1])) := same_upd nll
    generalize upd H2 ll (HO.lst [V.int l0, V.int l1]) = H3 at ell s3 ⊢
    have s03 := s1.trans (s2.trans s3)
    refine ⟨_, rfl, a, CP, dx, _, .ref tt, rfl, s03 _ _ h1, C.cl, C.nf, (by kernel_rfl), ?_⟩
    refine ⟨tt, as, A, rfl, SqT.of (s03 _ _ h2), h3.same s03, lA, sA, fun r3 xl xs B H4 s4 er4 ex4 B0 B156 nx fx bx => ?_⟩
    refine ⟨r3, _, rfl, SqT.of er4, rfl, _, _, rfl, _, _, rfl, rfl, ?_⟩
    refine ⟨(by show 1 ≤ sizeLine; decide), fun lv0 nlv0 => ?_⟩
    have elv0 : upd H4 lv0 (HO.lst [V.int 0]) lv0 = some (HO.lst [V.int 0]) := upd_same
    have s5 : Same H4 (upd H4 lv0 (HO.lst [V.int 0])) := same_upd nlv0
    generalize upd H4 lv0 (HO.lst [V.int 0]) = H5 at elv0 s5 ⊢
    refine ⟨_, rfl, xl, _, rfl, SqL.of (s5 _ _ ex4), fun lr nlr => ?_⟩
    have elr : upd H5 lr (HO.lst (xs.map V.int).reverse) lr = some (HO.lst (xs.map V.int).reverse) := upd_same
    have s6 : Same H5 (upd H5 lr (HO.lst (xs.map V.int).reverse)) := same_upd nlr
    generalize upd H5 lr (HO.lst (xs.map V.int).reverse) = H6 at elr s6 ⊢
    have ell6 := s6 _ _ (s5 _ _ (s4 _ _ ell))
    have bb : ((bot : Int)).natAbs ≤ 2 ^ 24 := by rw [Int.natAbs_natCast]; exact lle
    have hsc : ∀ j, ((bot : Int) ^ j).natAbs ≤ 2 ^ (24 * j) := fun j => by
      rw [Int.natAbs_pow, Nat.pow_mul]
      exact Nat.pow_le_pow_left bb _
    refine ⟨lr, rfl, ⟨_, SqL.of elr⟩, for_list (K := K) (a := lr) (xs := (xs.map V.int).reverse) (fun j σ H' => ∃ (lv : Addr) (vs : List Int) (v13 : Option V), σ = [some (.ref a), some v, some u, some (.int s.num), some (.int (s.den : Int)), some (.int t.num), some (.int (t.den : Int)), some (.int (bot : Int)), some (.ref ll), some (.ref xl), some (.int (B : Int)), some (.ref lv), some (.int ((bot : Int) ^ j)), v13, none] ∧ Same H6 H' ∧ RI H' lv vs ∧ vs.length = j + 1 ∧ (∀ i, (ci vs i).natAbs ≤ 2 ^ (170 + 38 * j)) ∧ ∀ i, cf (mvl s t (A.drop (A.length - j))) i * ((B : Rat) * (((bot : Int) ^ j : Int) : Rat)) = ((ci vs i : Int) : Rat) * ((bot : Nat) : Rat))
      ⟨lv0, [0], none, rfl, Same.refl _, s6 _ _ elv0, rfl, fun i => ?_, fun i => ?_⟩ (fun j σ H' _ ⟨_, _, _, _, ss, _⟩ => SqL.of (ss _ _ elr)) ?_ ?_⟩
    · have z : ci [0] i = 0 := by
        cases i with
        | zero => rfl
        | succ i => exact ci_ge (by show 1 ≤ _; omega)
      rw [z]
      exact Nat.zero_le _
    · have z : ci [0] i = 0 := by
        cases i with
        | zero => rfl
        | succ i => exact ci_ge (by show 1 ≤ _; omega)
      rw [z, Nat.sub_zero, List.drop_length]
      show cf [] i * _ = ((0 : Int) : Rat) * _
      rw [cf_nil, Rat.zero_mul, show ((0 : Int) : Rat) = 0 from rfl, Rat.zero_mul]
    · rintro j y σ H7 hj ⟨lv, vs, v13, rfl, s7, elv, lvs, bv, hv⟩
      obtain ⟨rfl, hjl⟩ := rev_ci hj
      have blin : ∀ i, (ci [l0, l1] i).natAbs < 2 ^ 3900 := fun i => by
        match i with
        | 0 => exact lt_4000 hl0 (by decide)
        | 1 => exact lt_4000 hl1 (by decide)
        | i + 2 =>
          rw [ci_ge (by show 2 ≤ _; omega)]
          exact Nat.pow_pos (by decide)
      refine ⟨_, rfl, _, rfl, lv, ll, vs, [l0, l1], rfl, elv, s7 _ _ ell6, by omega, (by show 2 ≤ 500; decide), fun i => lt_4000 (bv i) (by omega), blin, fun l H8 s8 nl el => ?_⟩
      have ews : pmI vs [l0, l1] = tabI (j + 2) (pcI vs [l0, l1]) := by
        unfold pmI
        rw [if_neg (fun z => z.elim (fun z => by rw [z] at lvs; cases lvs) (fun z => by cases z)), lvs]
        rfl
      rw [ews] at el
      have w0 : ((tabI (j + 2) (pcI vs [l0, l1])).map V.int)[0]? = some (V.int (ci (tabI (j + 2) (pcI vs [l0, l1])) 0)) := RI.at (H := H8) (l := l) (by rw [tabI_len]; omega)
      have bn := bx (xs.length - 1 - j)
      refine ⟨_, rfl, l, _, _, _, rfl, rfl, SqL.of el, at_of (j := 0) rfl w0, _, rfl, _, rfl, _, _, rfl, rfl, big_mulW (lt_4000 bn (by decide)) (lt_4000 (hsc j) (by omega)), _, _, rfl, rfl, ?_⟩
      have hix : ixN ((tabI (j + 2) (pcI vs [l0, l1])).map V.int).length 0 = some 0 := by
        unfold ixN
        rw [if_pos (by omega), List.length_map, tabI_len, if_pos (by omega)]
        rfl
      refine ⟨_, rfl, l, _, _, 0, rfl, rfl, el, hix, ?_⟩
      refine ⟨_, rfl, _, rfl, _, _, rfl, rfl, big_mulW (lt_4000 (hsc j) (by omega)) (lt_4000 bb (by decide)), ?_⟩
      have cfn : ∀ i, ci ((tabI (j + 2) (pcI vs [l0, l1])).set 0 (ci (tabI (j + 2) (pcI vs [l0, l1])) 0 + ci xs (xs.length - 1 - j) * (bot : Int) ^ j)) i = ci vs i * l0 + (if i = 0 then 0 else ci vs (i - 1)) * l1 + (if i = 0 then ci xs (xs.length - 1 - j) else 0) * (bot : Int) ^ j := fun i => by
        rw [ci_set (by rw [tabI_len]; omega)]
        by_cases h0 : i = 0
        · subst h0
          rw [if_pos rfl, if_pos rfl, if_pos rfl, ci_tab, if_pos (by omega), pcI_line, if_pos rfl]
          omega
        · rw [if_neg h0, if_neg h0, if_neg h0, ci_tab]
          split
          · rw [pcI_line, if_neg h0]
            omega
          · rw [ci_ge (l := vs) (by omega), ci_ge (l := vs) (by omega)]
            omega
      refine ⟨l, (tabI (j + 2) (pcI vs [l0, l1])).set 0 (ci (tabI (j + 2) (pcI vs [l0, l1])) 0 + ci xs (xs.length - 1 - j) * (bot : Int) ^ j), some (.int (ci xs (xs.length - 1 - j))), ?_, fun b' o' e' => ?_, ?_, by rw [List.length_set, tabI_len], fun i => ?_, fun i => ?_⟩
      · rw [Int.pow_succ]
        rfl
      · have e7 := s7 _ _ e'
        rw [upd_ne (ne_of_none e7 nl)]
        exact s8 _ _ e7
      · unfold RI
        rw [upd_same, List.map_set]
      · rw [cfn]
        refine mv_size (bv i) ?_ hl0 hl1 ?_ (hsc j)
        · split
          · exact Nat.zero_le _
          · exact bv _
        · split
          · exact bn
          · exact Nat.zero_le _
      · rw [cfn, show A.drop (A.length - (j + 1)) = cf A (A.length - 1 - j) :: A.drop (A.length - j) from by
          rw [List.drop_eq_getElem_cons (show A.length - (j + 1) < A.length by omega), cf_lt (show A.length - 1 - j < A.length by omega), show A.length - (j + 1) + 1 = A.length - j by omega]
          congr 2
          omega, mvl_cf, Int.pow_succ, Rat.intCast_mul, Rat.intCast_add, Rat.intCast_add, Rat.intCast_mul, Rat.intCast_mul, Rat.intCast_mul]
        have e5 := fx (A.length - 1 - j)
        rw [show A.length - 1 - j = xs.length - 1 - j by omega] at e5 ⊢
        have g2 : (if i = 0 then (0 : Rat) else cf (mvl s t (A.drop (A.length - j))) (i - 1)) * ((B : Rat) * (((bot : Int) ^ j : Int) : Rat)) = (((if i = 0 then 0 else ci vs (i - 1)) : Int) : Rat) * ((bot : Nat) : Rat) := by
          split
          · rw [Rat.zero_mul, show ((0 : Int) : Rat) = 0 from rfl, Rat.zero_mul]
          · exact hv _
        have g3 : (if i = 0 then cf A (xs.length - 1 - j) else 0) * (B : Rat) = (((if i = 0 then ci xs (xs.length - 1 - j) else 0) : Int) : Rat) := by
          split
          · exact e5
          · rw [Rat.zero_mul]
            rfl
        have g4 : (if i = 0 then (0 : Rat) else cf (mvl s t (A.drop (A.length - j))) (i - 1) * t) = (if i = 0 then (0 : Rat) else cf (mvl s t (A.drop (A.length - j))) (i - 1)) * t := by
          split
          · rw [Rat.zero_mul]
          · rfl
        rw [g4]
        exact mv_over (S := (((bot : Int) ^ j : Int) : Rat)) rfl (hv i) g2 ol0 ol1 g3
    · rintro σ H7 ⟨lv, vs, v13, rfl, s7, elv, lvs, bv, hv⟩
      rw [List.length_reverse, List.length_map, nx] at lvs bv hv ⊢
      rw [Nat.sub_self, List.drop_zero] at hv
      have z1 := fun i => lt_4000 (bv i) (by omega)
      have z2 := lt_4000 bb (by decide)
      have z3 := lt_4000 (hsc A.length) (by omega)
      have z4 : ((B : Int)).natAbs < 2 ^ 3900 := by rw [Int.natAbs_natCast]; exact lt_4000 B156 (by decide)
      refine ⟨_, rfl, lv, rfl, lc_seq (xs := vs.map V.int) (.inl (SqL.of elv)) (fun D i H' => Same H7 H' ∧ H' D = some (.lst ((tabI i fun k => ci vs k * (bot : Int)).map V.int))) ?_ ?_ ?_ ?_⟩
      · intro D hD
        exact ⟨same_upd hD, upd_same⟩
      · intro D i H9 hD ⟨s9, _⟩
        exact ⟨same_sqL s9, same_sqT s9⟩
      · intro D i y H9 hD hi ⟨s9, eD⟩
        have hi' : i < vs.length := by
          have := (List.getElem?_eq_some_iff.mp hi).1
          rw [List.length_map] at this
          exact this
        rw [RI.at (H := H) (l := lv) hi'] at hi
        cases hi
        refine ⟨rfl, ?_⟩
        refine ⟨_, rfl, _, rfl, _, _, rfl, rfl, big_mulW (z1 i) z2, ?_⟩
        refine ⟨_, eD, ?_, (fun b' o' e' => ?_), ?_⟩
        · rw [List.length_map, tabI_len, sizeLine_eq]
          omega
        · rw [upd_ne (ne_of_none e' hD)]
          exact s9 _ _ e'
        · rw [upd_same, tabI_snoc, List.map_append]
          rfl
      · intro D H9 hD ⟨s9, eD⟩
        rw [List.length_map] at eD
        have p0 : (0 : Int) < (bot : Int) ^ A.length := Int.pow_pos (by omega)
        refine ⟨_, rfl, _, rfl, _, _, rfl, rfl, big_mulW z4 z3, ?_⟩
        refine ⟨D, _, _, tab vs.length (cf (mvl s t A)), rfl, eD, Int.mul_pos (by omega) p0, ?_, by rw [tabI_len]; omega, by rw [tabI_len, tab_len], fun i => ?_, fun x H10 s10 made => ?_⟩
        · rw [Int.natAbs_mul, Int.natAbs_natCast]
          have h := Nat.mul_le_mul B156 (hsc A.length)
          rw [← Nat.pow_add] at h
          exact Nat.lt_of_le_of_lt h (Nat.pow_lt_pow_right (by decide) (by show 156 + 24 * A.length < 4000; omega))
        · rw [cf_tab, ci_tab]
          split
          · rw [Rat.intCast_mul, Rat.intCast_mul]
            exact hv i
          · rw [Rat.zero_mul]
            rfl
        · have e : stripQ (tab vs.length (cf (mvl s t A))) = mvl s t A := by
            rw [← mvl_stp s t A]
            refine stripQ_ext fun i => ?_
            rw [cf_tab, mvl_stp]
            split
            · rfl
            · rw [cf_ge]
              have := mvl_len s t A
              omega
          rw [e] at made
          exact q x H10 (s03.trans (s4.trans (s5.trans (s6.trans (s7.trans (s9.trans s10)))))) made
end
end Vf

set_option maxRecDepth 100000
set_option maxHeartbeats 8000000
namespace Vf
open PySem PySem.Spec PyProof.Rows L2
/-- a small drawn ratio -/
def spRatio : Sp := fun vs H Q _ => ∃ (p lc : Addr) (B m : Int), vs = [.ref p, .int m] ∧ 1 ≤ m ∧ m ≤ 1000 ∧ Pen H p lc B ∧ B ≤ 10000000 ∧
  ∀ (r : Addr) (t b : Int) (H' : Hp), Pen H' p lc (B + 3) → Kp p H H' → H' r = some (.tup [.int t, .int b]) → Low t b → (t.natAbs : Int) ≤ m * 99 → b.natAbs ≤ 99 → Q (.ref r) H'
section
variable {P : Program} {w : World} {K : PySem.W.Frag} {mg : Str → Option Value} {base : Heap} {CN : Addr}
abbrev sLRatio : Stmt := topS 41
theorem scLRatio : FnScope ["_law_pen_here", "_law_most", "_law_bottom"] ["_law_pen_here", "_law_most"] (defScope sLRatio) := ⟨rfl, rfl, rfl, by decide +kernel, rfl, by decide +kernel, by decide +kernel⟩
theorem small_mulW {x y : Int} (h1 : x.natAbs < 2 ^ 200) (h2 : y.natAbs < 2 ^ 200) : CMulW x y := wide_mul h1 h2 (by decide) (by decide) (by decide)
theorem ok_lratio {f : Addr} {fd : FuncData} (F : Fun K "_law_ratio" "_law_ratio" sLRatio f fd) (Gd_ : Df P w K mg base "_law_draw" 1 ["_law_pen_here", "_law_many"] spDraw) (Gp : Df P w K mg base "_law_pick" 2 ["_law_pen_here", "_law_some"] spPick) (Gq : Df P w K mg base "_law_q" 2 ["_law_top", "_law_bottom"] spQ) :
    FnOk P w K mg base CX0 3 f fd ["_law_pen_here", "_law_most"] spRatio := by
  refine F.ok scLRatio (fun vs H Q E h => ?_) (fun cdv A outer s H vs Q E hr h => ?_)
  · obtain ⟨p, lc, B, m, rfl, _⟩ := h
    rfl
  · obtain ⟨p, lc, B, m, rfl, hm1, hm9, hP, hB, q⟩ := h
    refine ⟨_, (pss_cons (ps_set (i := 2) scLRatio.nd rfl (Or.inl rfl) (pe_call Gp.ok (hr.mono (by decide)) rfl Gp.m Gp.kp Gp.b .nil pass0 (pa_cons (pv 0) (pa_cons (pe_lst (pa_cons pe_int (pa_cons pe_int (pa_cons pe_int (pa_cons pe_int (pa_cons pe_int (pa_cons pe_int (pa_cons (pe_op op_add pe_int (pe_call Gd_.ok (hr.mono (by decide)) rfl Gd_.m Gd_.kp Gd_.b .nil pass0 (pa_cons (pv 0) (pa_cons pe_int pa_nil)))) pa_nil)))))))) pa_nil))))
      (pss_one (ps_ret (pe_call Gq.ok (hr.mono (by decide)) rfl Gq.m Gq.kp Gq.b .nil pass0 (pa_cons (pe_op op_sub (pe_call Gd_.ok (hr.mono (by decide)) rfl Gd_.m Gd_.kp Gd_.b .nil pass0 (pa_cons (pv 0) (pa_cons (pe_op op_add (pe_op op_mulW (pe_op op_mulW pe_int (pv 1)) (pv 2)) pe_int) pa_nil))) (pe_op op_mulW (pv 1) (pv 2))) (pa_cons (pv 2) pa_nil)))))), ?_⟩
    refine ⟨_, rfl, _, rfl, p, lc, B, 99, rfl, hP, by omega, by decide, by decide, fun z H1 z0 z1 hP1 k1 => ⟨_, _, rfl, rfl, ?_⟩⟩
    refine ⟨(by show 7 ≤ sizeLine; decide), fun l nl => ?_⟩
    have el : upd H1 l (HO.lst [V.int 1, V.int 1, V.int 2, V.int 3, V.int 7, V.int 10, V.int (1 + z)]) l = some (HO.lst [V.int 1, V.int 1, V.int 2, V.int 3, V.int 7, V.int 10, V.int (1 + z)]) := upd_same
    have sl : Same H1 (upd H1 l (HO.lst [V.int 1, V.int 1, V.int 2, V.int 3, V.int 7, V.int 10, V.int (1 + z)])) := same_upd nl
    have lp : l ≠ p := by
      obtain ⟨o, e⟩ := hP1.there
      exact (ne_of_none e nl).symm
    generalize upd H1 l (HO.lst [V.int 1, V.int 1, V.int 2, V.int 3, V.int 7, V.int 10, V.int (1 + z)]) = H2 at el sl ⊢
    have hP2 := hP1.same sl
    refine ⟨p, lc, l, _, _, rfl, hP2, by omega, el, lp, (by show 0 < 7; decide), (by show 7 < 1000000; decide), fun x H3 hx hP3 k3 => ?_⟩
    obtain ⟨b, rfl, b0, b1⟩ : ∃ b : Int, x = .int b ∧ 1 ≤ b ∧ b ≤ 99 := by
      simp only [List.mem_cons, List.not_mem_nil, or_false] at hx
      rcases hx with h | h | h | h | h | h | h <;> exact ⟨_, h, by omega, by omega⟩
    have sz : ∀ {i : Int}, 0 ≤ i → i ≤ 1000000 → i.natAbs < 2 ^ 200 := fun {i} h0 h1 => Nat.lt_trans (show i.natAbs < 2 ^ 20 by omega) (by decide +kernel)
    have k13 : Kp p H H3 := (k1.trans (Kp.of sl)).trans k3
    have hmb : m * b ≤ 1000 * 99 := Int.mul_le_mul hm9 b1 (by omega) (by decide)
    have hmb0 : 0 < m * b := Int.mul_pos (by omega) (by omega)
    have e2 : 2 * m * b = 2 * (m * b) := Int.mul_assoc _ _ _
    refine ⟨_, rfl, _, rfl, _, _, rfl, rfl, small_mulW (sz (by decide) (by decide)) (sz (by omega) (by omega)), _, rfl, _, _, rfl, rfl, small_mulW (sz (by omega) (by omega)) (sz (by omega) (by omega)), _, _, rfl, rfl, p, lc, _, _, rfl, hP3, by omega, by omega, by omega, fun y H4 y0 y1 hP4 k4 => ?_⟩
    refine ⟨_, rfl, _, rfl, _, _, rfl, rfl, small_mulW (sz (by omega) (by omega)) (sz (by omega) (by omega)), _, _, rfl, rfl, _, rfl, ?_⟩
    have hb : b ≠ 0 := by omega
    have lt : (2 : Nat) ^ 20 < 2 ^ big := Nat.pow_lt_pow_right (by decide) (by decide)
    refine ⟨_, _, rfl, hb, Nat.lt_trans (show (y - m * b).natAbs < 2 ^ 20 by omega) lt, Nat.lt_trans (show b.natAbs < 2 ^ 20 by omega) lt, fun r H5 s5 n5 e5 => ?_⟩
    obtain ⟨z1, z2⟩ := low_size (t := y - m * b) hb
    have mb : m * b ≤ m * 99 := Int.mul_le_mul_of_nonneg_left b1 (by omega)
    exact q r _ _ H5 ((hP4.more (by omega)).same s5) ((k13.trans k4).trans (Kp.of s5)) e5 (low_is hb) (by omega) (by omega)
end
/-! ### drawn polynomials -/
def SmD (m : Int) (q : Rat) : Prop := (q.num.natAbs : Int) ≤ m * 99 ∧ q.den ≤ 99
theorem RL.kp {H H' : Hp} {p lc l : Addr} {B : Int} {qs : List Rat} (h : RL H l qs) (hP : Pen H p lc B) (k : Kp p H H') : RL H' l qs := by
  obtain ⟨as, e, t⟩ := h
  refine ⟨as, k _ _ ?_ e, t.kp hP k⟩
  obtain ⟨_, _, _, _, _, g1, _⟩ := hP
  exact ne_of e g1.1 (by intro z; cases z)
theorem RL.ne {H : Hp} {p lc l : Addr} {B : Int} {qs : List Rat} (h : RL H l qs) (hP : Pen H p lc B) : l ≠ p := by
  obtain ⟨as, e, t⟩ := h
  obtain ⟨_, _, _, _, _, g1, _⟩ := hP
  exact ne_of e g1.1 (by intro z; cases z)
theorem TR.kp {H H' : Hp} {p lc r : Addr} {B : Int} {q : Rat} (h : TR H r q) (hP : Pen H p lc B) (k : Kp p H H') : TR H' r q := by
  obtain ⟨_, _, _, _, _, g1, _⟩ := hP
  exact k _ _ (ne_of h g1.1 (by intro z; cases z)) h
theorem PolyQ.kp {K : PySem.W.Frag} {CP : Addr} {H H' : Hp} {a p l : Addr} {B : Int} {qs : List Rat} (h : PolyQ K CP H a qs) (hP : Pen H p l B) (k : Kp p H H') : PolyQ K CP H' a qs := PolyAt.kp h hP k
def spDrawn : Sp := fun vs H Q _ => ∃ (p lc : Addr) (B g m : Int), vs = [.ref p, .int g, .int m] ∧ Pen H p lc B ∧ B ≤ 1000000 ∧ 0 ≤ g ∧ g ≤ 12 ∧ 1 ≤ m ∧ m ≤ 5 ∧
  ∀ (l : Addr) (qs : List Rat) (H' : Hp), Pen H' p lc (B + 100) → Kp p H H' → RL H' l qs → qs.length ≤ 13 → stripQ qs = qs → (∀ i, SmD m (cf qs i)) → Q (.ref l) H'
def spMade (K : PySem.W.Frag) (CP : Addr) : Sp := fun vs H Q _ => ∃ (p lc l : Addr) (B : Int) (a : List Rat), vs = [.ref p, .ref l] ∧ Pen H p lc B ∧ B ≤ 1000000 ∧ RL H l a ∧ a.length ≤ 13 ∧ stripQ a = a ∧ (∀ i, Sm (cf a i)) ∧
  ∀ (x : Addr) (H' : Hp), Pen H' p lc (B + 100) → Kp p H H' → PolyQ K CP H' x a → Q (.ref x) H'
theorem sm_s80 {q : Rat} (h : Sm q) : RatOk (pq q) := by
  refine ⟨pq_low q, Nat.lt_of_le_of_lt h.1 (Nat.pow_lt_pow_right (by decide) (by decide)), ?_⟩
  show (q.den : Int).natAbs < 2 ^ 80
  rw [Int.natAbs_natCast]
  exact Nat.lt_of_le_of_lt h.2 (Nat.pow_lt_pow_right (by decide) (by decide))
theorem mem_cf {qs : List Rat} {q : Rat} (h : q ∈ qs) : ∃ i, q = cf qs i := by
  obtain ⟨i, hi, e⟩ := List.mem_iff_getElem.mp h
  exact ⟨i, by rw [cf_lt hi, e]⟩
theorem Dts.rep0 {K : PySem.W.Frag} {H : Hp} : ∀ n : Nat, Dts K H (List.replicate n (V.int 0)) (List.replicate n (PyData.int 0))
  | 0 => .nil
  | n + 1 => .cons (.int 0) (Dts.rep0 n)
theorem giv_rep0 {ds : List PyData} {ps : List (Int × Int)} (h : Giv ds ps) : ∀ n : Nat, Giv (ds ++ List.replicate n (PyData.int 0)) (ps ++ List.replicate n (0, 1))
  | 0 => by rw [List.replicate_zero, List.replicate_zero, List.append_nil, List.append_nil]; exact h
  | n + 1 => by
    rw [List.replicate_succ', List.replicate_succ', ← List.append_assoc, ← List.append_assoc]
    exact (giv_rep0 h n).snoc (k := 1) (p := (0, 1)) rfl (by decide) (by decide) (gd_int (by show (0 : Int).natAbs < _; exact Nat.pow_pos (by decide)))
section
variable {P : Program} {w : World} {K : PySem.W.Frag} {mg : Str → Option Value} {base : Heap} {CP CR CN : Addr}
abbrev sDrawn : Stmt := topS 51
abbrev sMade : Stmt := topS 50
theorem scDrawn : FnScope ["_law_pen_here", "_law_degree", "_law_most", "_law_k"] ["_law_pen_here", "_law_degree", "_law_most"] (defScope sDrawn) := ⟨rfl, rfl, rfl, by decide +kernel, rfl, by decide +kernel, by decide +kernel⟩
theorem ok_drawn {f : Addr} {fd : FuncData} (F : Fun K "_law_drawn" "_law_drawn" sDrawn f fd) (T : Bk mg) (Gd_ : Df P w K mg base "_law_draw" 1 ["_law_pen_here", "_law_many"] spDraw) (Gr : Df P w K mg base "_law_ratio" 3 ["_law_pen_here", "_law_most"] spRatio) (Gpoly : Df P w K mg base "_law_poly" 1 ["_law_numbers"] (spLPoly K)) : FnOk P w K mg base CX0 4 f fd ["_law_pen_here", "_law_degree", "_law_most"] spDrawn := by
  refine F.ok scDrawn (fun vs H Q E h => ?_) (fun cdv A outer s H vs Q E hr h => ?_)
  · obtain ⟨p, lc, B, g, m, rfl, _⟩ := h
    rfl
  · obtain ⟨p, lc, B, g, m, rfl, hP, hB, g0, g12, m1, m5, q⟩ := h
    refine ⟨_, (pss_one (ps_ret (pe_call Gpoly.ok (hr.mono (by decide)) rfl Gpoly.m Gpoly.kp Gpoly.b .nil pass0 (pa_cons (pe_lc (own := [("_law_k", 3)]) (g := gName 3) (tt := tYes) rfl scDrawn.nd (pi_range1 (by rfl) T.range (pa_cons (pe_op op_add pe_int (pe_call Gd_.ok (hr.mono (by decide)) rfl Gd_.m Gd_.kp Gd_.b .nil pass0 (pa_cons (pv 0) (pa_cons (pe_op op_add (pv 1) pe_int) pa_nil)))) pa_nil)) (blkOk_by (N := ["_law_pen_here", "_law_degree", "_law_most", "_law_k"]) (sc := defScope sDrawn) (by decide +kernel)) (fun _ _ _ _ _ => pg_name (i := 3) scDrawn.nd rfl (Or.inl rfl)) (fun _ _ _ _ _ => pts_nil)
      (fun _ _ _ _ _ => (pe_call Gr.ok (hr.mono (by decide)) rfl Gr.m Gr.kp Gr.b .nil pass0 (pa_cons (pv 0) (pa_cons (pv 2) pa_nil))))) pa_nil)))), ?_⟩
    refine ⟨_, rfl, _, rfl, _, _, rfl, rfl, p, lc, B, _, rfl, hP, by omega, by omega, by omega, fun z H1 z0 z1 hP1 k1 => ⟨_, _, rfl, rfl, ?_⟩⟩
    refine ⟨_, rfl, by omega, by omega, fun D hD => lc_range (lo := 0) (n := (1 + z).toNat) (fun i H' => Kp p H1 H' ∧ Pen H' p lc (B + 1 + 3 * i) ∧ ∃ zs qs, H' D = some (.lst (zs.map V.ref)) ∧ Tups H' zs (qs.map pq) ∧ qs.length = i ∧ ∀ i, SmD m (cf qs i)) ?_ ?_ ?_⟩
    · exact ⟨Kp.of (same_upd hD), (hP1.same (same_upd hD)).more (by omega), [], [], upd_same, .nil, rfl, fun i => ⟨by show ((0 : Nat) : Int) ≤ _; omega, by show 1 ≤ 99; decide⟩⟩
    · rintro i H' hi ⟨kk, hP', zs, qs, eD, tz, lq, sq⟩
      obtain ⟨d1, d2⟩ := hP1.ne_new hD
      refine ⟨rfl, ?_⟩
      refine ⟨_, rfl, _, rfl, p, lc, _, m, rfl, m1, by omega, hP', by omega, fun r t b H2 hP2 k2 e2 lw zt zb => ?_⟩
      obtain ⟨qq, eq⟩ := low_is_pq (p := (t, b)) lw
      have eD' := k2 _ _ d1 eD
      have er : TR H2 r qq := by
        unfold TR
        rw [e2]
        have h1 : t = qq.num := congrArg Prod.fst eq
        have h2 : b = (qq.den : Int) := congrArg Prod.snd eq
        rw [h1, h2]
      have hq : SmD m qq := by
        have h1 : t = qq.num := congrArg Prod.fst eq
        have h2 : b = (qq.den : Int) := congrArg Prod.snd eq
        refine ⟨by rw [← h1]; exact zt, ?_⟩
        rw [h2, Int.natAbs_natCast] at zb
        exact zb
      refine ⟨_, eD', ?_, ?_, (hP2.put upd_away d1 d2).more (by omega), zs ++ [r], qs ++ [qq], ?_, ?_, by rw [List.length_append, lq]; rfl, fun j => ?_⟩
      · have := tz.lenQ
        rw [List.length_map, sizeLine_eq]
        omega
      · exact fun b o nb eb => by
          rw [upd_ne (ne_of_none eb hD)]
          exact k2 b o nb (kk b o nb eb)
      · rw [upd_same, List.map_append]
        rfl
      · have up : ∀ (c : Addr) (p : Int × Int), H2 c = some (.tup [.int p.1, .int p.2]) → upd H2 D (.lst (zs.map V.ref ++ [V.ref r])) c = some (.tup [.int p.1, .int p.2]) := fun c p z => by
          rw [upd_ne (ne_of z eD' (by intro z; cases z))]
          exact z
        exact Tups.snocQ ((tz.kp hP' k2).imp up) (up r (pq qq) er)
      · rw [cf_app]
        split
        · exact sq j
        · rename_i hj
          by_cases h0 : j - qs.length = 0
          · rw [h0]; exact hq
          · rw [cf_ge (show ([qq] : List Rat).length ≤ j - qs.length by show 1 ≤ _; omega)]
            exact ⟨by show ((0 : Nat) : Int) ≤ _; omega, by show 1 ≤ 99; decide⟩
    · rintro H' ⟨kk, hP', zs, qs, eD, tz, lq, sq⟩
      refine lpoly_q (E := E0) ⟨zs, eD, tz⟩ (by omega) fun l H2 s2 rl => ?_
      refine q l _ H2 ((hP'.more (by omega)).same s2) (k1.trans (kk.trans (Kp.of s2))) rl ?_ (stripQ_id (stripQ_stp _)) fun i => by rw [cf_stripQ]; exact sq i
      have := stripQ_len qs
      omega
theorem scMade : FnScope ["_law_pen_here", "_law_one", "_law_numbers", "_law_number"] ["_law_pen_here", "_law_one"] (defScope sMade) := ⟨rfl, rfl, rfl, by decide +kernel, rfl, by decide +kernel, by decide +kernel⟩
theorem ok_made {f : Addr} {fd : FuncData} (F : Fun K "_law_made_poly" "_law_made_poly" sMade f fd) (T : Bk mg) (PM : PoM P w K mg base CP CR) (Gd_ : Df P w K mg base "_law_draw" 1 ["_law_pen_here", "_law_many"] spDraw) (Gp : Df P w K mg base "_law_pick" 2 ["_law_pen_here", "_law_some"] spPick) (Gs : Df P w K mg base "_law_passed" 3 ["_law_pen_here", "_law_ratio_here"] (spPassed K)) : FnOk P w K mg base CX0 7 f fd ["_law_pen_here", "_law_one"] (spMade K CP) := by
  refine F.ok scMade (fun vs H Q E h => ?_) (fun cdv A outer s H vs Q E hr h => ?_)
  · obtain ⟨p, lc, l, B, a, rfl, _⟩ := h
    rfl
  · obtain ⟨p, lc, l, B, a, rfl, hP, hB, ⟨as, el, ta⟩, la, st, sa, q⟩ := h
    refine ⟨_, (pss_cons (ps_set (i := 2) scMade.nd rfl (Or.inl rfl) (pe_op op_cat (pe_lc (own := [("_law_number", 3)]) (g := gName 3) (tt := tYes) rfl scMade.nd (pi_seq (pv 1)) (blkOk_by (N := ["_law_pen_here", "_law_one", "_law_numbers", "_law_number"]) (sc := defScope sMade) (by decide +kernel)) (fun _ _ _ _ _ => pg_name (i := 3) scMade.nd rfl (Or.inl rfl)) (fun _ _ _ _ _ => pts_nil) (fun _ _ _ _ _ => (pe_call Gs.ok (hr.mono (by decide)) rfl Gs.m Gs.kp Gs.b .nil pass0 (pa_cons (pv 0) (pa_cons (pv 3) pa_nil))))) (pe_op op_rep (pe_lst (pa_cons pe_int pa_nil)) (pe_call Gd_.ok (hr.mono (by decide)) rfl Gd_.m Gd_.kp Gd_.b .nil pass0 (pa_cons (pv 0) (pa_cons pe_int pa_nil))))))
  (pss_one (ps_ret (pe_make PM.mkI PM.okI (hr.mono (by decide)) rfl PM.C.m PM.bI .nil passL (pa_cons (pe_call Gp.ok (hr.mono (by decide)) rfl Gp.m Gp.kp Gp.b .nil pass0 (pa_cons (pv 0) (pa_cons (pe_lst (pa_cons (pe_callTy call_tuple_of (by rfl) T.tuple (by decide +kernel) (pa_cons (pv 2) pa_nil)) (pa_cons (pv 2) pa_nil))) pa_nil))) pa_nil))))), ?_⟩
    have lp : l ≠ p := RL.ne ⟨as, el, ta⟩ hP
    have leq := ta.lenQ
    refine ⟨_, rfl, l, rfl, lc_seq (xs := as.map V.ref) (.inl (SqL.of el)) (fun D k H' => Kp p H H' ∧ Pen H' p lc (B + 3 * k) ∧ ∃ vs ds, H' D = some (.lst vs) ∧ Dts K (fz D p H') vs ds ∧ Giv ds ((a.map pq).take k)) ?_ ?_ ?_ ?_⟩
    · intro D hD
      exact ⟨Kp.of (same_upd hD), (hP.same (same_upd hD)).more (by omega), [], [], upd_same, .nil, .nil⟩
    · intro D k H' hD ⟨kk, _⟩
      exact seq_kp lp kk
    · intro D k x H' hD hk ⟨kk, hP', vs, ds, eD, dts, giv⟩
      obtain ⟨d1, d2⟩ := hP.ne_new hD
      rw [List.getElem?_map] at hk
      cases hr0 : as[k]? with
      | none => rw [hr0] at hk; cases hk
      | some r =>
        rw [hr0] at hk
        cases hk
        obtain ⟨qq, hq, er⟩ := ta.atQ hr0
        have rp : r ≠ p := by
          obtain ⟨_, _, _, _, _, g1, _⟩ := hP
          exact ne_of er g1.1 (by intro z; cases z)
        have okq : RatOk (pq qq) := sm_s80 (by have := sa k; rw [cf_get hq] at this; exact this)
        have hk13 : k < 13 := by
          have := (List.getElem?_eq_some_iff.mp hr0).1
          omega
        refine ⟨rfl, ?_⟩
        refine ⟨_, rfl, _, rfl, p, lc, r, _, (pq qq).1, (pq qq).2, rfl, hP', by omega, kk _ _ rp er, okq.lw.pos, okq.zt, okq.zb, fun v d kz H2 hP2 kp' hd pa k0 k3 gd => ?_⟩
        have eD' := kp' _ _ d1 eD
        have hDl : vs.length < sizeLine := by
          have := dts.len
          have := giv.len
          rw [List.length_take] at this
          rw [sizeLine_eq]
          omega
        have hp := hP'.there.choose_spec
        refine ⟨_, eD', hDl, ?_, (hP2.put upd_away d1 d2).more (by omega), vs ++ [v], ds ++ [d], upd_same, ?_, ?_⟩
        · exact fun b o nb eb => by
            rw [upd_ne (ne_of_none eb hD)]
            exact kp' b o nb (kk b o nb eb)
        · have up : Same (fz D p H2) (fz D p (upd H2 D (.lst (vs ++ [v])))) := fz_mono fun b o h1 h2 e => by rw [upd_ne h1]; exact e
          exact (dts.mono ((fz_mono fun b o h1 h2 e => kp' b o h2 e).trans up)).app (.cons (hd.mono ((nw_fz eD hp).trans up)) .nil)
        · have z := giv.snoc (p := pq qq) pa k0 k3 gd
          have e : (a.map pq).take (k + 1) = (a.map pq).take k ++ [pq qq] := by rw [List.take_succ, List.getElem?_map, hq]; rfl
          rw [e]
          exact z
    · intro lg H11 nlg ⟨k11, hP11, vs, ds, elg, dts, giv⟩
      obtain ⟨lgp, lgc⟩ := hP.ne_new nlg
      have etk : (a.map pq).take (as.map V.ref).length = a.map pq := by rw [List.length_map, leq]; exact List.take_of_length_le (by rw [List.length_map]; exact Nat.le_refl _)
      rw [etk] at giv
      have hP11 := hP11.more (show _ ≤ B + 60 by rw [List.length_map]; omega)
      have lenv : vs.length ≤ 13 := by
        have h1 := dts.len
        have h2 := giv.len
        rw [List.length_map] at h2
        omega
      refine ⟨(by show 1 ≤ sizeLine; decide), fun l1 nl1 => ?_⟩
      have el1 : upd H11 l1 (HO.lst [V.int 0]) l1 = some (HO.lst [V.int 0]) := upd_same
      have s12 : Same H11 (upd H11 l1 (HO.lst [V.int 0])) := same_upd nl1
      have l1p := (hP11.ne_new nl1).1
      generalize upd H11 l1 (HO.lst [V.int 0]) = H12 at el1 s12 ⊢
      have hP12 := hP11.same s12
      refine ⟨_, rfl, p, lc, _, 2, rfl, hP12, by omega, by decide, by decide, fun m H13 m0 m1 hP13 k13 => ?_⟩
      refine ⟨l1, m, _, rfl, rfl, k13 _ _ l1p el1, by omega, by omega, (by rw [sizeLine_eq]; show 1 * m.toNat ≤ _; omega), fun l2 nl2 => ?_⟩
      have el2 : upd H13 l2 (HO.lst (List.replicate m.toNat [V.int 0]).flatten) l2 = some (HO.lst (List.replicate m.toNat (V.int 0))) := by rw [upd_same, List.flatten_replicate_singleton]
      have s14 : Same H13 (upd H13 l2 (HO.lst (List.replicate m.toNat [V.int 0]).flatten)) := same_upd nl2
      generalize upd H13 l2 (HO.lst (List.replicate m.toNat [V.int 0]).flatten) = H14 at el2 s14 ⊢
      have elg14 := s14 _ _ (k13 _ _ lgp (s12 _ _ elg))
      refine ⟨lg, l2, _, _, rfl, rfl, elg14, el2, (by rw [List.length_replicate, sizeLine_eq]; omega), fun nb nnb => ?_⟩
      have enb : upd H14 nb (HO.lst (vs ++ List.replicate m.toNat (V.int 0))) nb = some (HO.lst (vs ++ List.replicate m.toNat (V.int 0))) := upd_same
      have s15 : Same H14 (upd H14 nb (HO.lst (vs ++ List.replicate m.toNat (V.int 0)))) := same_upd nnb
      have hP14 := hP13.same s14
      have nbp := (hP14.ne_new nnb).1
      generalize upd H14 nb (HO.lst (vs ++ List.replicate m.toNat (V.int 0))) = H15 at enb s15 ⊢
      have hP15 := hP14.same s15
      refine ⟨_, rfl, _, rfl, nb, _, rfl, .inl ⟨SqL.of enb, fun tg ntg => ?_⟩⟩
      have etg : upd H15 tg (HO.tup (vs ++ List.replicate m.toNat (V.int 0))) tg = some (HO.tup (vs ++ List.replicate m.toNat (V.int 0))) := upd_same
      have s16 : Same H15 (upd H15 tg (HO.tup (vs ++ List.replicate m.toNat (V.int 0)))) := same_upd ntg
      have tgp := (hP15.ne_new ntg).1
      generalize upd H15 tg (HO.tup (vs ++ List.replicate m.toNat (V.int 0))) = H16 at etg s16 ⊢
      have hP16 := hP15.same s16
      refine ⟨_, rfl, (by show 2 ≤ sizeLine; decide), fun l4 nl4 => ?_⟩
      have el4 : upd H16 l4 (HO.lst [V.ref tg, V.ref nb]) l4 = some (HO.lst [V.ref tg, V.ref nb]) := upd_same
      have s17 : Same H16 (upd H16 l4 (HO.lst [V.ref tg, V.ref nb])) := same_upd nl4
      have l4p := (hP16.ne_new nl4).1
      generalize upd H16 l4 (HO.lst [V.ref tg, V.ref nb]) = H17 at el4 s17 ⊢
      have hP17 := hP16.same s17
      refine ⟨p, lc, l4, _, _, rfl, hP17, by omega, el4, l4p, (by show 0 < 2; decide), (by show 2 < 1000000; decide), fun x H18 hx hP18 k18 => ?_⟩
      have k1118 : Kp p H11 H18 := ((Kp.of s12).trans k13).trans ((Kp.of (s14.trans (s15.trans (s16.trans s17)))).trans k18)
      have dts18 : Dts K H18 (vs ++ List.replicate m.toNat (V.int 0)) (ds ++ List.replicate m.toNat (PyData.int 0)) := (dts.mono ((fz_mono fun b o _ h e => k1118 b o h e).trans fz_sub)).app (Dts.rep0 _)
      have giv2 := giv_rep0 giv m.toNat
      have ok2 : ∀ y ∈ a.map pq ++ List.replicate m.toNat (0, 1), RatOk y := fun y hy => by
        rcases List.mem_append.mp hy with h | h
        · obtain ⟨q0, hq0, rfl⟩ := List.mem_map.mp h
          obtain ⟨i, rfl⟩ := mem_cf hq0
          exact sm_s80 (sa i)
        · rw [List.eq_of_mem_replicate h]
          exact sm_s80 sm_zero'
      obtain ⟨dg, hdg, sdg⟩ : ∃ dg, Dt K H18 x dg ∧ seqD dg = some (ds ++ List.replicate m.toNat (PyData.int 0)) := by
        simp only [List.mem_cons, List.not_mem_nil, or_false] at hx
        rcases hx with h | h
        · rw [h]
          exact ⟨.tuple _, .tup (SqT.of (k18 _ _ tgp (s17 _ _ etg))) dts18, rfl⟩
        · rw [h]
          exact ⟨.list _, .lst (SqL.of (k18 _ _ nbp (s17 _ _ (s16 _ _ enb)))) dts18, rfl⟩
      obtain ⟨qs, hqs, eqs, bqs⟩ := giv2.row ok2
      have rdg : rowD dg = some qs := by rw [rowD_seq sdg]; exact hqs
      refine poly_made hdg (fun ds' h => ?_) (fun ps' h => ?_) (fun z => by rw [rdg] at z; cases z)
      · rw [sdg] at h
        cases h
        have := dts18.len
        rw [List.length_append, List.length_replicate] at this
        omega
      rw [rdg] at h
      cases h
      refine ⟨bqs, fun md H19 s19 nmd made => q md H19 ((hP18.more (by omega)).same s19) (k11.trans (k1118.trans (Kp.of s19))) ?_⟩
      have e : a.map pq ++ List.replicate m.toNat (0, 1) = (a ++ List.replicate m.toNat 0).map pq := by
        rw [List.map_append, List.map_replicate]
        rfl
      have e2 : stripQ (a ++ List.replicate m.toNat 0) = a := by
        rw [← st]
        refine (stripQ_ext fun i => ?_).trans (by rw [st])
        rw [st, cf_app]
        split
        · rfl
        · rw [cf_rep0, cf_ge (by omega)]
      rw [eqs, e, strip_map, e2] at made
      exact made
end
end Vf

set_option maxRecDepth 100000
set_option maxHeartbeats 8000000
namespace Vf
open PySem PySem.Spec PyProof.Rows L2
/-! ### operators of Polys -/
/-- a ratio as it stands beside a Poly -/
def RatT (H : Hp) (v : V) (B : List Rat) : Prop := (∃ i : Int, v = .int i ∧ B = stripQ [(i : Rat)]) ∨ (∃ (r : Addr) (t b : Int) (q : Rat), v = .ref r ∧ H r = some (.tup [.int t, .int b]) ∧ 0 < b ∧ b.natAbs < 2 ^ big ∧ low t b = pq q ∧ B = stripQ [q])
theorem low_int (i : Int) : low i 1 = pq (i : Rat) := low_mul (by decide) (by rw [show ((1 : Int) : Rat) = 1 from rfl, Rat.mul_one])
theorem RatT.dt {K : PySem.W.Frag} {H : Hp} {v : V} {B : List Rat} (h : RatT H v B) : ∃ (d : PyData) (p : Int × Int) (q : Rat), Dt K H v d ∧ partsD d = some p ∧ lowP p = pq q ∧ p.2.natAbs < 2 ^ big ∧ B = stripQ [q] ∧ (tyD d = "int" ∨ tyD d = "tuple") := by
  rcases h with ⟨i, rfl, rfl⟩ | ⟨r, t, b, q, rfl, e, b0, bb, hl, rfl⟩
  · exact ⟨.int i, (i, 1), i, .int i, rfl, low_int i, Nat.one_lt_pow (by decide) (by decide), rfl, .inl rfl⟩
  · refine ⟨.tuple [.int t, .int b], (t, b), q, .tup (SqT.of e) (.cons (.int _) (.cons (.int _) .nil)), ?_, hl, bb, rfl, .inr rfl⟩
    show (if 0 < b then some (t, b) else none) = _
    rw [if_pos b0]
theorem RatT.opd {K : PySem.W.Frag} {CP : Addr} {H : Hp} {v : V} {B : List Rat} (h : RatT H v B) : Opd K CP H v B := by
  obtain ⟨d, p, q, h1, h2, h3, h4, h5, _⟩ := h.dt (K := K)
  exact .inr ⟨d, p, q, h1, h2, h3, h4, h5⟩
theorem RatT.ty {K : PySem.W.Frag} {H : Hp} {v : V} {B : List Rat} (h : RatT H v B) : TyX K H v (.type "int") ∨ TyX K H v (.type "tuple") := by
  obtain ⟨d, p, q, h1, _, _, _, _, h6⟩ := h.dt (K := K)
  have := h1.ty
  rcases h6 with e | e <;> rw [e] at this
  · exact .inl this
  · exact .inr this
theorem RatT.same {H H' : Hp} {v : V} {B : List Rat} (h : RatT H v B) (s : Same H H') : RatT H' v B := by
  rcases h with h | ⟨r, t, b, q, e1, e, z⟩
  · exact .inl h
  · exact .inr ⟨r, t, b, q, e1, s _ _ e, z⟩
/-- an operator of the class, both sides -/
structure OpM (P : Program) (w : World) (K : PySem.W.Frag) (mg : Str → Option Value) (base : Heap) (CP : Addr) (nm : String) (gL gR : List Rat → List Rat → List Rat) where
  f : Addr
  g : Addr
  fd : FuncData
  gd : FuncData
  hs : PySem.W.findIn K (.ref CP) (PySem.dunder nm) = some (some (.ref f))
  hR : PySem.W.findIn K (.ref CP) (PySem.dunderR nm) = some (some (.ref g))
  hf : PySem.W.isFn K (.ref f) = true
  hg : PySem.W.isFn K (.ref g) = true
  b : Binds K fd ["self", "other"] []
  c : Binds K gd ["self", "other"] []
  ok : FnOk P w K mg base (L2.CX P w) 8 f fd ["self", "other"] (spBin K CP gL)
  okR : FnOk P w K mg base (L2.CX P w) 8 g gd ["self", "other"] (spBin K CP gR)
/-- what the class is beside tuples and whole numbers -/
structure PoS (K : PySem.W.Frag) (CP : Addr) : Prop where
  sf : PySem.W.selfFirst K CP = true
  t1 : PySem.W.subIn K (.type "tuple") (.ref CP) = some false
  t2 : PySem.W.subIn K (.ref CP) (.type "tuple") = some false
  i1 : PySem.W.subIn K (.type "int") (.ref CP) = some false
  i2 : PySem.W.subIn K (.ref CP) (.type "int") = some false
def rBinL (K : PySem.W.Frag) (CP : Addr) (g : List Rat → List Rat → List Rat) : R2 := fun x y H Q => ∃ (a : Addr) (A B : List Rat), x = .ref a ∧ PolyQ K CP H a A ∧ ((∃ b, y = .ref b ∧ PolyQ K CP H b B) ∨ RatT H y B) ∧ A.length ≤ 13 ∧ B.length ≤ 13 ∧ (∀ i, Sm (cf A i)) ∧ (∀ i, Sm (cf B i)) ∧
  ∀ (z : Addr) (H' : Hp), Same H H' → PolyQ K CP H' z (stripQ (g A B)) → Q (.ref z) H'
def rBinR (K : PySem.W.Frag) (CP : Addr) (g : List Rat → List Rat → List Rat) : R2 := fun x y H Q => ∃ (a : Addr) (A B : List Rat), y = .ref a ∧ PolyQ K CP H a A ∧ RatT H x B ∧ A.length ≤ 13 ∧ B.length ≤ 13 ∧ (∀ i, Sm (cf A i)) ∧ (∀ i, Sm (cf B i)) ∧
  ∀ (z : Addr) (H' : Hp), Same H H' → PolyQ K CP H' z (stripQ (g A B)) → Q (.ref z) H'
theorem op_binL {X : Cx} {CP : Addr} {op : Operator} {nm : String} {gL gR : List Rat → List Rat → List Rat} {bT bI : Bool} (hn : op.info.2 = nm) (sT : slotT "tuple" nm = some bT) (sI : slotT "int" nm = some bI) (M : OpM X.prog X.w X.K X.mg X.base CP nm gL gR) (S : PoS X.K CP) (hr : Room 8 X.A) (hx : Passes (L2.CX X.prog X.w) X E0) : OpR X (binaryOp op) (rBinL X.K CP gL) := by
  subst hn
  intro pins s σ H x y v u Q I rx ry h
  obtain ⟨a, A, B, rfl, hA, ho, lA, lB, sA, sB, q⟩ := h
  have hA' := hA
  obtain ⟨dx, t, as, h1, h2, h3⟩ := hA'
  rcases ho with ⟨b, rfl, hb⟩ | hrat
  · have hb' := hb
    obtain ⟨dy, t', bs, g1, _, _⟩ := hb'
    exact op_ownS M.hs M.hf S.sf M.ok M.b hr hx pins s σ H _ _ v u Q I rx ry ⟨a, dx, _, b, dy, _, rfl, rfl, h1, g1, a, _, A, B, rfl, hA, .inl ⟨b, rfl, hb⟩, lA, lB, sA, sB, q⟩
  · rcases hrat.ty (K := X.K) with ty | ty
    · exact op_ownL M.hs M.hf S.sf M.hR sI S.i1 M.ok M.b hr hx pins s σ H _ _ v u Q I rx ry ⟨a, dx, _, rfl, h1, ty, a, _, A, B, rfl, hA, hrat.opd, lA, lB, sA, sB, q⟩
    · exact op_ownL M.hs M.hf S.sf M.hR sT S.t1 M.ok M.b hr hx pins s σ H _ _ v u Q I rx ry ⟨a, dx, _, rfl, h1, ty, a, _, A, B, rfl, hA, hrat.opd, lA, lB, sA, sB, q⟩
theorem op_binR {X : Cx} {CP : Addr} {op : Operator} {nm : String} {gL gR : List Rat → List Rat → List Rat} {bI : Bool} (hn : op.info.2 = nm) (h3 : op = .Add ∨ op = .Sub ∨ op = .Mult) (sT : slotT "tuple" nm = some false) (sI : slotT "int" nm = some bI) (M : OpM X.prog X.w X.K X.mg X.base CP nm gL gR) (S : PoS X.K CP) (hr : Room 8 X.A) (hx : Passes (L2.CX X.prog X.w) X E0) : OpR X (binaryOp op) (rBinR X.K CP gR) := by
  subst hn
  intro pins s σ H x y v u Q I rx ry h
  obtain ⟨a, A, B, rfl, hA, hrat, lA, lB, sA, sB, q⟩ := h
  have hA' := hA
  obtain ⟨dx, t, as, h1, h2, h4⟩ := hA'
  rcases hrat.ty (K := X.K) with ty | ty
  · exact op_ownR M.hs S.sf M.hR M.hg sI S.i2 (fun _ => left_int h3) M.okR M.c hr hx pins s σ H _ _ v u Q I rx ry ⟨a, dx, _, rfl, h1, ty, a, _, A, B, rfl, hA, hrat.opd, lA, lB, sA, sB, q⟩
  · exact op_ownR M.hs S.sf M.hR M.hg sT S.t2 (fun z => by cases z) M.okR M.c hr hx pins s σ H _ _ v u Q I rx ry ⟨a, dx, _, rfl, h1, ty, a, _, A, B, rfl, hA, hrat.opd, lA, lB, sA, sB, q⟩
/-- the opposite -/
structure NegM (P : Program) (w : World) (K : PySem.W.Frag) (mg : Str → Option Value) (base : Heap) (CP : Addr) where
  f : Addr
  fd : FuncData
  hs : PySem.W.findIn K (.ref CP) "__neg__" = some (some (.ref f))
  hf : PySem.W.isFn K (.ref f) = true
  b : Binds K fd ["self"] []
  ok : FnOk P w K mg base (L2.CX P w) 7 f fd ["self"] (spNegP K CP)
def rNegQ (K : PySem.W.Frag) (CP : Addr) : V → Hp → VK → Prop := fun x H Q => ∃ (a : Addr) (A : List Rat), x = .ref a ∧ PolyQ K CP H a A ∧ A.length ≤ 500 ∧ (∀ q ∈ A, q.den < 2 ^ big) ∧ ∀ (z : Addr) (H' : Hp), Same H H' → PolyQ K CP H' z (stripQ (A.map (- ·))) → Q (.ref z) H'
theorem un_negQ {X : Cx} {CP : Addr} (M : NegM X.prog X.w X.K X.mg X.base CP) (hr : Room 7 X.A) (hx : Passes (L2.CX X.prog X.w) X E0) : UnR X (unaryOp .USub) (rNegQ X.K CP) := by
  intro pins s σ H x v Q I rx h
  obtain ⟨a, A, rfl, hA, lA, zA, q⟩ := h
  have hA' := hA
  obtain ⟨dx, t, as, h1, _, _⟩ := hA'
  exact un_negO M.hs M.hf M.ok M.b hr hx pins s σ H _ v Q I rx ⟨a, dx, _, rfl, h1, a, A, rfl, hA, lA, zA, q⟩
end Vf

set_option maxRecDepth 100000
set_option maxHeartbeats 8000000
namespace Vf
open PySem PySem.Spec PyProof.Rows L2
/-! ### sizes -/
theorem fr_all {a : List Rat} (hl : a.length ≤ 13) (h : ∀ i, Sm (cf a i)) : ∃ M N : Nat, 0 < M ∧ 0 < N ∧ M ≤ 2 ^ 156 ∧ N ≤ 2 ^ 169 ∧ ∀ i, Fr M N (cf a i) := by
  have key : ∀ n, n ≤ 13 → ∃ M, 0 < M ∧ M ≤ 2 ^ (12 * n) ∧ ∀ j, j < n → (cf a j).den ∣ M := fun n => by
    induction n with
    | zero => exact fun _ => ⟨1, by decide, by decide, fun j hj => by omega⟩
    | succ n ih =>
      intro hn
      obtain ⟨M, h1, h2, h3⟩ := ih (by omega)
      refine ⟨M * (cf a n).den, Nat.mul_pos h1 (cf a n).den_pos, ?_, fun j hj => ?_⟩
      · rw [Nat.mul_add, Nat.pow_add]
        exact Nat.mul_le_mul h2 (h n).2
      · by_cases e : j = n
        · rw [e]; exact Nat.dvd_mul_left _ _
        · exact Nat.dvd_trans (h3 j (by omega)) (Nat.dvd_mul_right _ _)
  obtain ⟨M, h1, h2, h3⟩ := key 13 (Nat.le_refl _)
  refine ⟨M, 2 ^ 13 * M, h1, Nat.mul_pos (by decide) h1, h2, ?_, fun i => ?_⟩
  · rw [show (2 : Nat) ^ 169 = 2 ^ 13 * 2 ^ 156 from by decide +kernel]
    exact Nat.mul_le_mul_left _ h2
  · by_cases hi : i < 13
    · obtain ⟨k, e, f⟩ := (Fr.self (cf a i)).dvd (h3 i hi)
      refine f.le ?_
      have hk : k ≤ M := by
        rw [e]
        exact Nat.le_mul_of_pos_left _ (cf a i).den_pos
      exact Nat.mul_le_mul (h i).1 hk
    · rw [cf_ge (by omega)]
      exact Fr.zero _ _
theorem fr_hors {M N B L W : Nat} {x : Rat} (hB : B ≤ W) (hL : L ≤ W) (hx : Fr B L x) : ∀ a : List Rat, (∀ i, Fr M N (cf a i)) → Fr (M * B ^ a.length) (N * (a.length * W ^ a.length)) (hor x a)
  | [], _ => Fr.zero _ _
  | c :: l, h => fr_hor hB hL (fr_hors hB hL hx l fun i => by have := h (i + 1); exact this) hx (h 0)
theorem gd_big {x y : Int} (hx : x.natAbs < 2 ^ 1900) (hy : y.natAbs < 2 ^ 1900) : Gd (.tuple [.int x, .int y]) := by
  have lt : (2 : Nat) ^ 1900 < 2 ^ 1920 := Nat.pow_lt_pow_right (by decide) (by decide)
  have gi : ∀ {z : Int}, z.natAbs < 2 ^ 1900 → (PyData.int z).showable = true ∧ (PyData.int z).depth ≤ 9 ∧ (PyData.int z).shown.length ≤ 40000 := fun {z} h => by
    have l := log_small (Nat.lt_trans h lt)
    refine ⟨by simp only [PyData.showable, l, decide_true], by simp [PyData.depth], ?_⟩
    simp only [PyData.shown]
    exact Nat.le_trans (int_text_len_1921 l) (by decide)
  have all : ∀ d ∈ [PyData.int x, PyData.int y], d.showable = true ∧ d.depth ≤ 9 ∧ d.shown.length ≤ 40000 := fun d hd => by
    simp only [List.mem_cons, List.not_mem_nil, or_false] at hd
    rcases hd with h | h <;> rw [h]
    · exact gi hx
    · exact gi hy
  exact (gd_seq (n := 2) (m := 40000) (by show 2 ≤ 2; decide) (fun d hd => (all d hd).1) (fun d hd => (all d hd).2.1) (fun d hd => (all d hd).2.2) (by decide)).2
theorem gd_sr {q : Rat} (h : Sr q) : Gd (pairD (pq q)) := gd_big h.1 (by show ((q.den : Int)).natAbs < _; rw [Int.natAbs_natCast]; exact h.2)
theorem small_sr {qs : List Rat} (hl : qs.length ≤ 100) (h : ∀ i, Sr (cf qs i)) : small (.tuple ((qs.map pq).map pairD)) :=
  (small_of_gd (by rw [List.length_map, List.length_map]; exact hl) fun d hd => by
    obtain ⟨p, hp, rfl⟩ := List.mem_map.mp hd
    obtain ⟨q, hq, rfl⟩ := List.mem_map.mp hp
    obtain ⟨i, rfl⟩ := mem_cf hq
    exact gd_sr (h i)).2
theorem lt1900 {k n : Nat} (h : n ≤ 2 ^ k) (hk : k < 1900) : n < 2 ^ 1900 := Nat.lt_of_le_of_lt h (Nat.pow_lt_pow_right (by decide) hk)
theorem sm_sr {q : Rat} (h : Sm q) : Sr q := ⟨lt1900 h.1 (by decide), lt1900 h.2 (by decide)⟩
/-- why(lambda: ..) != ("number", what, repr(x)), where the lambda raises BadNumber(what, x) -/
theorem why_num {K : PySem.W.Frag} {C : Nat → Addr} {T : List (Addr × Str)} {t : XK → TE} {wx : Str} {i : Nat} {σ : L2.St} {H : Hp} {R : V → Hp → Prop} {v : V} {d : PyData} (hT : LamX.Tabs T H) (hv : σ[i]? = some (some v)) (hd : Dt K H v d) (hs : small d)
    (run : ∀ (H1 : Hp) (Q : VK), LamX.ExtN H H1 → RaisesN (C 1) H1 (.str wx) v (WhyE K C Q) → t (WhyE K C Q) σ H1 (fun _ H' => Q .non H')) (rest : ∀ H', LamX.ExtN H H' → LamX.Tabs T H' → R (.bl false) H') :
    tOp (rNeT K) (LamX.tLam T (TWhy K C) t) (tTup (tCons (tC (V.str "number")) (tCons (tC (V.str wx)) (tCons (tCB (fun xs H Q => ∃ v d, xs = [v] ∧ Dt K H v d ∧ small d ∧ Q (.str d.shown) H) (tCons (tVar i) tNil)) tNil)))) σ H R := by
  refine ⟨hT, fun H1 eN T1 => ?_⟩
  refine run H1 _ eN (fun dd H2 s2 n2 e2 => .inl ⟨rfl, dd, _, v, d, rfl, e2, (hd.n eN).mono s2, hs, fun tt H3 s3 e3 => ?_⟩)
  refine ⟨v, hv, v, d, rfl, ((hd.n eN).mono s2).mono s3, hs, (by show 3 ≤ sizeLine; decide), fun p np => ?_⟩
  have s4 : Same H3 (upd H3 p (HO.tup [V.str "number", V.str wx, V.str d.shown])) := same_upd np
  have pl : (PyData.tuple [.str "number", .str wx, .str d.shown]).plain = true := by simp [PyData.plain, PyData.plainAll]
  refine ⟨.tuple [.str "number", .str wx, .str d.shown], .tuple [.str "number", .str wx, .str d.shown], .tup (SqT.of (s4 _ _ e3)) (.cons (.str _) (.cons (.str _) (.cons (.str _) .nil))), .tup (SqT.of upd_same) (.cons (.str _) (.cons (.str _) (.cons (.str _) .nil))), pl, pl, (by simp [PyData.depth, PyData.depthAll]), ?_⟩
  rw [SeqAt.eqv_refl_plain _ pl]
  have e13 : Same H1 (upd H3 p (HO.tup [V.str "number", V.str wx, V.str d.shown])) := s2.trans (s3.trans s4)
  exact rest _ (fun b o e n => e13 b o (eN b o e n)) (T1.ext e13)
def q3 : Rat := ⟨1, 3, by decide, by decide⟩
theorem sr_q3 : Sr q3 := sm_sr ⟨by decide, by decide⟩
theorem sm_third {q : Rat} (h : SmD 5 q) : Sm (q + q3) := by
  have d0 := q.den_pos
  have h1 := low_add q q3
  have h2 := low_size (t := q.num * (q3.den : Int) + q3.num * (q.den : Int)) (den_ne q q3)
  rw [h1] at h2
  obtain ⟨z1, z2⟩ := h2
  have z1 : (q + q3).num.natAbs ≤ (q.num * 3 + 1 * (q.den : Int)).natAbs := z1
  have z2 : (((q + q3).den : Int)).natAbs ≤ ((q.den : Int) * 3).natAbs := z2
  obtain ⟨g1, g2⟩ := h
  refine ⟨?_, ?_⟩
  · have : (2 : Nat) ^ 13 = 8192 := by decide
    omega
  · have : (2 : Nat) ^ 12 = 4096 := by decide
    omega
theorem sr_add2 {a b : Rat} (ha : Sm a) (hb : Sm b) : Sr (a + b) := by
  have h1 := low_add a b
  have h2 := low_size (t := a.num * b.den + b.num * a.den) (den_ne a b)
  rw [h1] at h2
  obtain ⟨z1, z2⟩ := h2
  have z1 : (a + b).num.natAbs ≤ (a.num * b.den + b.num * a.den).natAbs := z1
  have z2 : ((a + b).den : Int).natAbs ≤ ((a.den : Int) * (b.den : Int)).natAbs := z2
  rw [Int.natAbs_natCast, Int.natAbs_mul, Int.natAbs_natCast, Int.natAbs_natCast] at z2
  have g1 : (a.num * (b.den : Int)).natAbs ≤ 2 ^ 13 * 2 ^ 12 := by rw [Int.natAbs_mul, Int.natAbs_natCast]; exact Nat.mul_le_mul ha.1 hb.2
  have g2 : (b.num * (a.den : Int)).natAbs ≤ 2 ^ 13 * 2 ^ 12 := by rw [Int.natAbs_mul, Int.natAbs_natCast]; exact Nat.mul_le_mul hb.1 ha.2
  have g3 : a.den * b.den ≤ 2 ^ 12 * 2 ^ 12 := Nat.mul_le_mul ha.2 hb.2
  have g4 := Int.natAbs_add_le (a.num * (b.den : Int)) (b.num * (a.den : Int))
  exact ⟨lt1900 (k := 27) (by have : (2 : Nat) ^ 13 * 2 ^ 12 + 2 ^ 13 * 2 ^ 12 ≤ 2 ^ 27 := by decide
                              omega) (by decide), lt1900 (k := 24) (by have : (2 : Nat) ^ 12 * 2 ^ 12 = 2 ^ 24 := by decide
                                                                       omega) (by decide)⟩
theorem sr_plus {A B : List Rat} (hA : ∀ i, Sm (cf A i)) (hB : ∀ i, Sm (cf B i)) : ∀ i, Sr (cf (stripQ (padd A B)) i) := fun i => by
  rw [cf_stripQ, cf_padd]
  exact sr_add2 (hA i) (hB i)
theorem sm_negs {B : List Rat} (hB : ∀ i, Sm (cf B i)) : ∀ i, Sm (cf (B.map (- ·)) i) := fun i => by
  rw [cf_neg]
  exact sm_neg (hB i)
theorem scale_neg (B : List Rat) (i : Nat) : cf (pscale B (-1)) i = -cf B i := by
  unfold pscale
  rw [cf_map (f := fun q => q * -1) (Rat.zero_mul _)]
  grind
theorem minus_eq (A B : List Rat) : stripQ (padd A (stripQ (pscale B (-1)))) = stripQ (padd A (B.map (- ·))) := by
  refine stripQ_ext fun i => ?_
  rw [cf_padd, cf_padd, cf_stripQ, scale_neg, cf_neg]
theorem neg_eq (A : List Rat) : stripQ (pscale A (-1)) = stripQ (A.map (- ·)) := by
  refine stripQ_ext fun i => ?_
  rw [scale_neg, cf_neg]
theorem fr_pc {A B : List Rat} {M N M' N' : Nat} (lA : A.length ≤ 13) (lB : B.length ≤ 13) (hA : ∀ i, Fr M N (cf A i)) (hB : ∀ i, Fr M' N' (cf B i)) (k : Nat) : Fr (M * M') (26 * (N * N')) (pc A B k) := by
  by_cases h : k < 26
  · have z := sm_fr (f := fun i => cf A i * cf B (k - i)) (n := k + 1) (M := M * M') (N := N * N') fun i _ => (hA i).mul (hB _)
    exact z.le (Nat.mul_le_mul_right _ (by omega))
  · rw [pc_zero (by omega)]
    exact Fr.zero _ _
theorem mul_lt {M M' : Nat} {j k : Nat} (h : M ≤ 2 ^ j) (h' : M' ≤ 2 ^ k) (hjk : j + k < 1890) : 41 * (M * M') < 2 ^ 1900 := by
  have h1 := Nat.mul_le_mul h h'
  rw [← Nat.pow_add] at h1
  have h2 : 41 * (M * M') ≤ 2 ^ 6 * 2 ^ (j + k) := Nat.mul_le_mul (by decide) h1
  rw [← Nat.pow_add] at h2
  exact Nat.lt_of_le_of_lt h2 (Nat.pow_lt_pow_right (by decide) (by omega))
theorem sr_times {A B : List Rat} {M N M' N' : Nat} (lA : A.length ≤ 13) (lB : B.length ≤ 13) (hA : ∀ i, Fr M N (cf A i)) (hB : ∀ i, Fr M' N' (cf B i)) (m0 : 0 < M) (m0' : 0 < M') (h1 : 41 * (M * M') < 2 ^ 1900) (h2 : 41 * (N * N') < 2 ^ 1900) : ∀ i, Sr (cf (stripQ (pmul A B)) i) := fun i => by
  rw [cf_stripQ, cf_pmul]
  exact (fr_pc lA lB hA hB i).sr (Nat.mul_pos m0 m0') (by omega) (by omega)
theorem le_k {n k : Nat} (h : n ≤ 1000) (hk : 10 ≤ k) : n ≤ 2 ^ k := Nat.le_trans h (Nat.le_trans (show 1000 ≤ 2 ^ 10 by decide) (Nat.pow_le_pow_right (by decide) hk))
theorem if_list {K : PySem.W.Frag} {σ : L2.St} {H : Hp} {R : V → Hp → Prop} {rb : Addr} {q : Rat} (hb : TR H rb q) (hv : σ[8]? = some (some (.ref rb)))
    (h : ∀ (l : Addr) (ws : List V) (H' : Hp), Same H H' → H' l = some (.lst ws) → ws.length ≤ 1 → (∀ x ∈ ws, ∃ t : Int, x = .int t ∧ q = (t : Rat)) → R (.ref l) H') :
    if decide (V.int (q.den : Int) = V.int 1) = true then tLst (tCons (tOp (rIxT K) (tVar 8) (tC (V.int 0))) tNil) σ H R else tLst tNil σ H R := by
  by_cases e : q.den = 1
  · rw [decide_eq_true (by rw [e]; rfl)]
    refine iteT ?_
    refine ⟨_, hv, rb, _, _, .int q.num, rfl, rfl, SqT.of hb, at_of (j := 0) rfl rfl, (by show 1 ≤ sizeLine; decide), fun l nl => h l _ _ (same_upd nl) upd_same (by show 1 ≤ 1; decide) fun x hx => ⟨q.num, List.mem_singleton.mp hx, ?_⟩⟩
    have z := num_den q
    rw [e, show ((1 : Nat) : Rat) = 1 from rfl, Rat.mul_one] at z
    exact z
  · rw [decide_eq_false (fun z => e (by have z2 := V.int.inj z; omega))]
    refine iteF ?_
    exact ⟨(by show 0 ≤ sizeLine; decide), fun l nl => h l _ _ (same_upd nl) upd_same (by show 0 ≤ 1; decide) fun x hx => by cases hx⟩
theorem smd_of {m t b : Int} (lw : Low t b) (zt : (t.natAbs : Int) ≤ m * 99) (zb : b.natAbs ≤ 99) : ∃ q : Rat, t = q.num ∧ b = (q.den : Int) ∧ SmD m q := by
  obtain ⟨q, e⟩ := low_is_pq (p := (t, b)) lw
  have h1 : t = q.num := congrArg Prod.fst e
  have h2 : b = (q.den : Int) := congrArg Prod.snd e
  refine ⟨q, h1, h2, by rw [← h1]; exact zt, ?_⟩
  rw [h2, Int.natAbs_natCast] at zb
  exact zb
theorem rat_by {H : Hp} {r : Addr} {q : Rat} (h : TR H r q) (hq : q.den ≤ 99) : RatT H (.ref r) (stripQ [q]) := by
  have d0 := q.den_pos
  refine .inr ⟨r, q.num, q.den, q, rfl, h, by omega, ?_, low_id (pq_low q), rfl⟩
  rw [Int.natAbs_natCast]
  exact Nat.lt_of_le_of_lt hq (Nat.lt_of_lt_of_le (show 99 < 2 ^ 7 by decide) (Nat.pow_le_pow_right (by decide) (by decide)))
theorem rat_by3 {H : Hp} {r : Addr} {q : Rat} (h : H r = some (.tup [.int (3 * q.num), .int (3 * (q.den : Int))])) (hq : q.den ≤ 99) : RatT H (.ref r) (stripQ [q]) := by
  have d0 := q.den_pos
  refine .inr ⟨r, 3 * q.num, 3 * (q.den : Int), q, rfl, h, by omega, ?_, ?_, rfl⟩
  · exact Nat.lt_of_le_of_lt (le_k (k := 10) (show (3 * (q.den : Int)).natAbs ≤ 1000 by omega) (by decide)) (Nat.pow_lt_pow_right (by decide) (by decide))
  · refine low_mul (by omega) ?_
    have z := num_den q
    have e1 : ((3 * q.num : Int) : Rat) = 3 * (q.num : Rat) := by exact_mod_cast rfl
    have e2 : ((3 * (q.den : Int) : Int) : Rat) = 3 * (q.den : Rat) := by exact_mod_cast rfl
    rw [e1, e2, ← z]
    grind
theorem sm_front (f : Nat → Rat) : ∀ n, sm f (n + 1) = f 0 + sm (fun i => f (i + 1)) n
  | 0 => by
    show 0 + f 0 = f 0 + 0
    rw [Rat.zero_add, Rat.add_zero]
  | n + 1 => by
    show sm f (n + 1) + f (n + 1) = f 0 + (sm (fun i => f (i + 1)) n + f (n + 1))
    rw [sm_front f n, Rat.add_assoc]
theorem sm_rev : ∀ (k : Nat) (f : Nat → Rat), sm (fun i => f (k - i)) (k + 1) = sm f (k + 1)
  | 0, f => rfl
  | k + 1, f => by
    rw [sm_front]
    show f (k + 1 - 0) + sm (fun i => f (k + 1 - (i + 1))) (k + 1) = sm f (k + 1) + f (k + 1)
    rw [sm_ext (g := fun i => f (k - i)) (fun i _ => by rw [Nat.add_sub_add_right]), sm_rev k f, Nat.sub_zero, Rat.add_comm]
theorem pc_comm (a b : List Rat) (k : Nat) : pc a b k = pc b a k := by
  unfold pc
  rw [← sm_rev k (fun i => cf b i * cf a (k - i))]
  refine sm_ext fun i hi => ?_
  rw [show k - (k - i) = i by omega, Rat.mul_comm]
theorem mul_comm' (a b : List Rat) : stripQ (pmul a b) = stripQ (pmul b a) := stripQ_ext fun i => by rw [cf_pmul, cf_pmul, pc_comm]
theorem add_comm' (a b : List Rat) : stripQ (padd a b) = stripQ (padd b a) := stripQ_ext fun i => by rw [cf_padd, cf_padd, Rat.add_comm]
theorem neg_sub' (a b : List Rat) : stripQ (padd b (a.map (- ·))) = stripQ ((stripQ (padd a (b.map (- ·)))).map (- ·)) := by
  refine stripQ_ext fun i => ?_
  rw [cf_neg, cf_stripQ, cf_padd, cf_padd, cf_neg, cf_neg]
  grind
theorem den_sub {A B : List Rat} (hA : ∀ i, Sm (cf A i)) (hB : ∀ i, Sm (cf B i)) : ∀ q ∈ stripQ (padd A (B.map (- ·))), q.den < 2 ^ big := fun q hq => by
  obtain ⟨i, rfl⟩ := mem_cf hq
  exact Nat.lt_trans (sr_plus hA (sm_negs hB) i).2 (Nat.pow_lt_pow_right (by decide) (by decide))
/-- data that is new stands, whatever becomes of the pen -/
theorem nw_kp {p lc : Addr} {B : Int} {H H' H2 : Hp} (hP : Pen H p lc B) (k : Kp p H' H2) : Same (nw H H') H2 := fun b o e => by
  obtain ⟨h1, h2⟩ := nw_get e
  obtain ⟨u, hu⟩ := hP.there
  exact k b o (fun z => by rw [z, hu] at h1; cases h1) h2
theorem smd_s80 {q : Rat} {m : Int} (h : SmD m q) (hm : m ≤ 10) : S80 q.num ∧ S80 (q.den : Int) := by
  refine ⟨Nat.lt_of_le_of_lt (le_k (k := 10) (by have := h.1; omega) (by decide)) (Nat.pow_lt_pow_right (by decide) (by decide)), ?_⟩
  show ((q.den : Int)).natAbs < 2 ^ 80
  rw [Int.natAbs_natCast]
  exact Nat.lt_of_le_of_lt (le_k (k := 10) (by have := h.2; omega) (by decide)) (Nat.pow_lt_pow_right (by decide) (by decide))
theorem arg_of {q : Rat} {m k : Int} (h : SmD m q) (hm : m ≤ 10) (k0 : 0 < k) (k3 : k ≤ 3) : Arg (q.num * k, (q.den : Int) * k) q := by
  have d0 := q.den_pos
  refine ⟨low_back (pq_low q) k0, ?_, le_k (by have := h.1; omega) (by decide), le_k (by have := h.2; omega) (by decide)⟩
  have e : k = 1 ∨ k = 2 ∨ k = 3 := by omega
  refine Nat.lt_of_le_of_lt (le_k (k := 10) ?_ (by decide)) (Nat.pow_lt_pow_right (by decide) (by decide))
  have := h.2
  show ((q.den : Int) * k).natAbs ≤ 1000
  rcases e with e | e | e <;> rw [e] <;> omega
theorem pw_lt {M N : Nat} {j e W w : Nat} (hM : M ≤ 2 ^ j) (hW : W ≤ 2 ^ w) (he : e ≤ 14) (h : j + w * 14 + 4 < 1800) : M * W ^ e < 2 ^ 1800 ∧ M * (e * W ^ e) < 2 ^ 1800 := by
  have g1 : W ^ e ≤ 2 ^ (w * 14) := by
    refine Nat.le_trans (Nat.pow_le_pow_left hW e) ?_
    rw [← Nat.pow_mul]
    exact Nat.pow_le_pow_right (by decide) (Nat.mul_le_mul_left _ he)
  have g2 : e * W ^ e ≤ 2 ^ (4 + w * 14) := by
    rw [Nat.pow_add]
    exact Nat.mul_le_mul (Nat.le_trans he (by decide)) g1
  have h1 := Nat.mul_le_mul hM g1
  have h2 := Nat.mul_le_mul hM g2
  rw [← Nat.pow_add] at h1 h2
  exact ⟨Nat.lt_of_le_of_lt h1 (Nat.pow_lt_pow_right (by decide) (by omega)), Nat.lt_of_le_of_lt h2 (Nat.pow_lt_pow_right (by decide) (by omega))⟩
theorem lt89 {n : Nat} (h : n < 2 ^ 1800) : n < 2 ^ 1900 := Nat.lt_trans h (Nat.pow_lt_pow_right (by decide) (by decide))
def qh : Rat := ⟨1, 2, by decide, by decide⟩
end Vf

set_option maxRecDepth 100000
set_option maxHeartbeats 16000000
namespace Vf
open PySem PySem.Spec PyProof.Rows L2
open LamX (ExtN Tabs TabS)
abbrev sLaw : Stmt := topS 54
def nLaw : List Str := ["_law_script", "_law_pen_here", "_law_lap", "_law_most", "_law_one", "_law_two", "_law_a", "_law_b", "_law_by", "_law_passed_here", "_law_flat", "_law_start", "_law_step", "_law_moved", "_law_odd", "_law_more"]
/-- a method of the class that may raise -/
structure MeX (P : Program) (w : World) (K : PySem.W.Frag) (mg : Str → Option Value) (base : Heap) (CP : Addr) (x : Str) (k : Nat) (ps : List Str) (sp : Sp) where
  f : Addr
  fd : FuncData
  m : Meth K CP x f
  b : Binds K fd ps []
  ok : FnOk P w K mg base (L2.CX P w) k f fd ps sp
section
variable {P : Program} {w : World} {K : PySem.W.Frag} {mg : Str → Option Value} {base : Heap} {C : Nat → Addr} {CP : Addr}
theorem scLaw : FnScope nLaw ["_law_script"] (defScope sLaw) := ⟨rfl, rfl, rfl, by decide +kernel, rfl, by decide +kernel, by decide +kernel⟩
theorem ok_law {f : Addr} {fd : FuncData} (F : Fun K "law" "law" sLaw f fd) (T : Bk mg) (W : Wc K mg C) (hm1 : M1 base) (c Pt : Addr) (hfc : fd.code = .ref c) (hTB : LamX.TabB base mg c Pt) (Y : Yy K mg)
    (PM : PoM P w K mg base CP (C 2))
    (G__law_pen : Df P w K mg base "_law_pen" 1 ["_law_script"] (spPen K))
    (G__law_draw : Df P w K mg base "_law_draw" 1 ["_law_pen_here", "_law_many"] spDraw)
    (G__law_pick : Df P w K mg base "_law_pick" 2 ["_law_pen_here", "_law_some"] spPick)
    (G__law_passed : Df P w K mg base "_law_passed" 3 ["_law_pen_here", "_law_ratio_here"] (spPassed K))
    (G__law_any : Df P w K mg base "_law_any" 3 ["_law_pen_here"] (spAny K))
    (G__law_ratio : Df P w K mg base "_law_ratio" 3 ["_law_pen_here", "_law_most"] spRatio)
    (G__law_poly : Df P w K mg base "_law_poly" 1 ["_law_numbers"] (spLPoly K))
    (G__law_drawn : Df P w K mg base "_law_drawn" 4 ["_law_pen_here", "_law_degree", "_law_most"] spDrawn)
    (G__law_made_poly : Df P w K mg base "_law_made_poly" 7 ["_law_pen_here", "_law_one"] (spMade K CP))
    (G__law_p_plus : Df P w K mg base "_law_p_plus" 4 ["_law_one", "_law_two"] spLPP)
    (G__law_p_scaled : Df P w K mg base "_law_p_scaled" 4 ["_law_one", "_law_by"] spLPS)
    (G__law_p_minus : Df P w K mg base "_law_p_minus" 5 ["_law_one", "_law_two"] spLPM)
    (G__law_p_times : Df P w K mg base "_law_p_times" 4 ["_law_one", "_law_two"] spLPT)
    (G__law_p_at : Df P w K mg base "_law_p_at" 4 ["_law_one", "_law_point"] spLPA)
    (G__law_p_slope : Df P w K mg base "_law_p_slope" 4 ["_law_one"] spLPSl)
    (G__law_p_moved : Df P w K mg base "_law_p_moved" 5 ["_law_one", "_law_start", "_law_step"] spLPMv)
    (M_slope : MeX P w K mg base CP "slope" 7 ["self"] (spSlope K CP)) (M_at : MeX P w K mg base CP "at" 5 ["self", "point"] (spAt K CP (C 1))) (M_moved : MeX P w K mg base CP "moved" 8 ["self", "start", "step"] (spMoved K CP (C 1)))
    (MA : OpM P w K mg base CP "add" (fun A B => padd A B) (fun A B => padd B A)) (MS : OpM P w K mg base CP "sub" (fun A B => padd A (B.map (- ·))) (fun A B => padd B (A.map (- ·)))) (MM : OpM P w K mg base CP "mul" (fun A B => pmul A B) (fun A B => pmul B A)) (NG : NegM P w K mg base CP) (PS : PoS K CP) : FnG P w K mg base CX0 12 f fd ["_law_script"] (spLaw K Pt) := by
  have B : Bi mg := T.toBi
  refine fnG_of1 F scLaw (fun vs H Q E h => ?_) (fun cdv A outer s H0 vs Q E hgu hr hcd h => ?_)
  · obtain ⟨a, ns, rfl, _⟩ := h
    rfl
  · obtain ⟨sc, ns, rfl, hS, hns, hPt, kend⟩ := h
    have hu64 := hr.units
    have hu160 : (A.deeper (envOfC "law" (defScope sLaw) s.heap.objs.size f cdv)).units + 160 < cLine := by have := hr.un; omega
    have hcd : cdv = .ref c := hcd.symm.trans hfc
    refine ⟨_, (pss_cons (ps_set (i := 1) scLaw.nd rfl (Or.inl rfl) (pe_call G__law_pen.ok (hr.mono (by decide)) rfl G__law_pen.m G__law_pen.kp G__law_pen.b .nil pass0 (pa_cons (pv 0) pa_nil)))
  (pss_cons (ps_for PassesOwn.never rfl (pi_range1 (by rfl) B.range (pa_cons pe_int pa_nil)) (pg_name (i := 2) scLaw.nd rfl (Or.inl rfl))
    (pss_cons (ps_set (i := 3) scLaw.nd rfl (Or.inl rfl) (pe_call G__law_pick.ok (hr.mono (by decide)) rfl G__law_pick.m G__law_pick.kp G__law_pick.b .nil pass0 (pa_cons (pv 1) (pa_cons (pe_lst (pa_cons pe_int (pa_cons pe_int (pa_cons pe_int pa_nil)))) pa_nil))))
    (pss_cons (ps_par (i := 4) (j := 5) (by rfl) scLaw.nd rfl rfl (by decide) rfl rfl (pa_cons (pe_call G__law_drawn.ok (hr.mono (by decide)) rfl G__law_drawn.m G__law_drawn.kp G__law_drawn.b .nil pass0 (pa_cons (pv 1) (pa_cons (pv 3) (pa_cons pe_int pa_nil)))) (pa_cons (pe_call G__law_drawn.ok (hr.mono (by decide)) rfl G__law_drawn.m G__law_drawn.kp G__law_drawn.b .nil pass0 (pa_cons (pv 1) (pa_cons (pv 3) (pa_cons pe_int pa_nil)))) pa_nil)) (by rfl))
    (pss_cons (ps_set (i := 5) scLaw.nd rfl (Or.inl rfl) (pe_call G__law_pick.ok (hr.mono (by decide)) rfl G__law_pick.m G__law_pick.kp G__law_pick.b .nil pass0 (pa_cons (pv 1) (pa_cons (pe_lst (pa_cons (pv 5) (pa_cons (pv 5) (pa_cons (pe_call G__law_p_scaled.ok (hr.mono (by decide)) rfl G__law_p_scaled.m G__law_p_scaled.kp G__law_p_scaled.b .nil pass0 (pa_cons (pv 4) (pa_cons (pe_tup (pa_cons (pe_un un_neg pe_int) (pa_cons pe_int pa_nil))) pa_nil))) (pa_cons (pe_call G__law_p_plus.ok (hr.mono (by decide)) rfl G__law_p_plus.m G__law_p_plus.kp G__law_p_plus.b .nil pass0 (pa_cons (pv 4) (pa_cons (pe_lst (pa_cons (pe_tup (pa_cons pe_int (pa_cons pe_int pa_nil))) pa_nil)) pa_nil))) pa_nil))))) pa_nil))))
    (pss_cons (ps_asg (pe_tup (pa_cons (pe_call G__law_made_poly.ok (hr.mono (by decide)) rfl G__law_made_poly.m G__law_made_poly.kp G__law_made_poly.b .nil pass0 (pa_cons (pv 1) (pa_cons (pv 4) pa_nil))) (pa_cons (pe_call G__law_made_poly.ok (hr.mono (by decide)) rfl G__law_made_poly.m G__law_made_poly.kp G__law_made_poly.b .nil pass0 (pa_cons (pv 1) (pa_cons (pv 5) pa_nil))) pa_nil))) (pg_tup (by rfl) (pgs_cons (pg_name (i := 6) scLaw.nd rfl (Or.inr rfl)) (pgs_cons (pg_name (i := 7) scLaw.nd rfl (Or.inl rfl)) pgs_nil))))
    (pss_cons (ps_if (pt_cmpR op_ne (pe_callB (id := "repr") (call_reprD hgu hr hm1) (by rfl) W.repr (by decide +kernel) (pa_cons (pe_fld (pe_op (op_binL (nm := "add") rfl slot_tup_add slot_int_add MA PS (hr.mono (by decide)) passL) (pv 6) (pv 7)) rfl) pa_nil)) (pe_callB (id := "repr") (call_reprD hgu hr hm1) (by rfl) W.repr (by decide +kernel) (pa_cons (pe_callTy call_tuple_of (by rfl) T.tuple (by decide +kernel) (pa_cons (pe_call G__law_p_plus.ok (hr.mono (by decide)) rfl G__law_p_plus.m G__law_p_plus.kp G__law_p_plus.b .nil pass0 (pa_cons (pv 4) (pa_cons (pv 5) pa_nil))) pa_nil)) pa_nil)) (nomark _))
      (pss_one (ps_ret pe_bl))
      pss_nil)
    (pss_cons (ps_if (pt_cmpR op_ne (pe_callB (id := "repr") (call_reprD hgu hr hm1) (by rfl) W.repr (by decide +kernel) (pa_cons (pe_fld (pe_op (op_binL (nm := "sub") rfl slot_tup_sub slot_int_sub MS PS (hr.mono (by decide)) passL) (pv 6) (pv 7)) rfl) pa_nil)) (pe_callB (id := "repr") (call_reprD hgu hr hm1) (by rfl) W.repr (by decide +kernel) (pa_cons (pe_callTy call_tuple_of (by rfl) T.tuple (by decide +kernel) (pa_cons (pe_call G__law_p_minus.ok (hr.mono (by decide)) rfl G__law_p_minus.m G__law_p_minus.kp G__law_p_minus.b .nil pass0 (pa_cons (pv 4) (pa_cons (pv 5) pa_nil))) pa_nil)) pa_nil)) (nomark _))
      (pss_one (ps_ret pe_bl))
      pss_nil)
    (pss_cons (ps_if (pt_cmpR op_ne (pe_callB (id := "repr") (call_reprD hgu hr hm1) (by rfl) W.repr (by decide +kernel) (pa_cons (pe_fld (pe_op (op_binL (nm := "mul") rfl slot_tup_mul slot_int_mul MM PS (hr.mono (by decide)) passL) (pv 6) (pv 7)) rfl) pa_nil)) (pe_callB (id := "repr") (call_reprD hgu hr hm1) (by rfl) W.repr (by decide +kernel) (pa_cons (pe_callTy call_tuple_of (by rfl) T.tuple (by decide +kernel) (pa_cons (pe_call G__law_p_times.ok (hr.mono (by decide)) rfl G__law_p_times.m G__law_p_times.kp G__law_p_times.b .nil pass0 (pa_cons (pv 4) (pa_cons (pv 5) pa_nil))) pa_nil)) pa_nil)) (nomark _))
      (pss_one (ps_ret pe_bl))
      pss_nil)
    (pss_cons (ps_if (PW.pt (pw_or (pt_cmpR (op_neT hu64 hm1) (pe_fld (pe_un (un_negQ NG (hr.mono (by decide)) passL) (pv 6)) rfl) (pe_callTy call_tuple_of (by rfl) T.tuple (by decide +kernel) (pa_cons (pe_call G__law_p_scaled.ok (hr.mono (by decide)) rfl G__law_p_scaled.m G__law_p_scaled.kp G__law_p_scaled.b .nil pass0 (pa_cons (pv 4) (pa_cons (pe_tup (pa_cons (pe_un un_neg pe_int) (pa_cons pe_int pa_nil))) pa_nil))) pa_nil)) (nomark _)) (pw_or1 (pt_cmpR (op_neT hu64 hm1) (pe_fld (pe_meth0 (pv 6) PM.C.cl M_slope.m M_slope.ok (hr.mono (by decide)) M_slope.b .nil passL) rfl) (pe_callTy call_tuple_of (by rfl) T.tuple (by decide +kernel) (pa_cons (pe_call G__law_p_slope.ok (hr.mono (by decide)) rfl G__law_p_slope.m G__law_p_slope.kp G__law_p_slope.b .nil pass0 (pa_cons (pv 4) pa_nil)) pa_nil)) (nomark _)))))
      (pss_one (ps_ret pe_bl))
      pss_nil)
    (pss_cons (ps_set (i := 8) scLaw.nd rfl (Or.inl rfl) (pe_call G__law_ratio.ok (hr.mono (by decide)) rfl G__law_ratio.m G__law_ratio.kp G__law_ratio.b .nil pass0 (pa_cons (pv 1) (pa_cons pe_int pa_nil))))
    (pss_cons (ps_par (i := 9) (j := 10) (by rfl) scLaw.nd rfl rfl (by decide) rfl rfl (pa_cons (pe_call G__law_pick.ok (hr.mono (by decide)) rfl G__law_pick.m G__law_pick.kp G__law_pick.b .nil pass0 (pa_cons (pv 1) (pa_cons (pe_op op_cat (pe_lst (pa_cons (pv 8) (pa_cons (pe_tup (pa_cons (pe_op op_mulW pe_int (pe_ix ix_tup (pv 8) pe_int (fun _ _ => rfl))) (pa_cons (pe_op op_mulW pe_int (pe_ix ix_tup (pv 8) pe_int (fun _ _ => rfl))) pa_nil))) pa_nil))) (pe_ifExp (pt_cmpR op_eq (pe_ix ix_tup (pv 8) pe_int (fun _ _ => rfl)) pe_int (nomark _)) (pe_lst (pa_cons (pe_ix ix_tup (pv 8) pe_int (fun _ _ => rfl)) pa_nil)) (pe_lst pa_nil))) pa_nil))) (pa_cons (pe_call G__law_poly.ok (hr.mono (by decide)) rfl G__law_poly.m G__law_poly.kp G__law_poly.b .nil pass0 (pa_cons (pe_lst (pa_cons (pv 8) pa_nil)) pa_nil)) pa_nil)) (by rfl))
    (pss_cons (ps_if (PW.pt (pw_or (pt_not (pt_cmpR (op_eqO PM.aE PM.nE PM.okE PM.bE (hr.mono (by decide)) pass0) (pe_op (op_binL (nm := "add") rfl slot_tup_add slot_int_add MA PS (hr.mono (by decide)) passL) (pv 6) (pv 9)) (pe_op (op_binR (nm := "add") rfl (.inl rfl) slot_tup_add slot_int_add MA PS (hr.mono (by decide)) passL) (pv 9) (pv 6)) (nomark _))) (pw_or1 (pt_cmpR (op_neT hu64 hm1) (pe_fld (pe_op (op_binL (nm := "add") rfl slot_tup_add slot_int_add MA PS (hr.mono (by decide)) passL) (pv 6) (pv 9)) rfl) (pe_callTy call_tuple_of (by rfl) T.tuple (by decide +kernel) (pa_cons (pe_call G__law_p_plus.ok (hr.mono (by decide)) rfl G__law_p_plus.m G__law_p_plus.kp G__law_p_plus.b .nil pass0 (pa_cons (pv 4) (pa_cons (pv 10) pa_nil))) pa_nil)) (nomark _)))))
      (pss_one (ps_ret pe_bl))
      pss_nil)
    (pss_cons (ps_if (PW.pt (pw_or (pt_not (pt_cmpR (op_eqO PM.aE PM.nE PM.okE PM.bE (hr.mono (by decide)) pass0) (pe_op (op_binL (nm := "mul") rfl slot_tup_mul slot_int_mul MM PS (hr.mono (by decide)) passL) (pv 6) (pv 9)) (pe_op (op_binR (nm := "mul") rfl (.inr (.inr rfl)) slot_tup_mul slot_int_mul MM PS (hr.mono (by decide)) passL) (pv 9) (pv 6)) (nomark _))) (pw_or1 (pt_cmpR (op_neT hu64 hm1) (pe_fld (pe_op (op_binR (nm := "mul") rfl (.inr (.inr rfl)) slot_tup_mul slot_int_mul MM PS (hr.mono (by decide)) passL) (pv 9) (pv 6)) rfl) (pe_callTy call_tuple_of (by rfl) T.tuple (by decide +kernel) (pa_cons (pe_call G__law_p_times.ok (hr.mono (by decide)) rfl G__law_p_times.m G__law_p_times.kp G__law_p_times.b .nil pass0 (pa_cons (pv 4) (pa_cons (pv 10) pa_nil))) pa_nil)) (nomark _)))))
      (pss_one (ps_ret pe_bl))
      pss_nil)
    (pss_cons (ps_if (PW.pt (pw_or (pt_cmpR (op_neT hu64 hm1) (pe_fld (pe_op (op_binR (nm := "sub") rfl (.inr (.inl rfl)) slot_tup_sub slot_int_sub MS PS (hr.mono (by decide)) passL) (pv 9) (pv 6)) rfl) (pe_callTy call_tuple_of (by rfl) T.tuple (by decide +kernel) (pa_cons (pe_call G__law_p_minus.ok (hr.mono (by decide)) rfl G__law_p_minus.m G__law_p_minus.kp G__law_p_minus.b .nil pass0 (pa_cons (pv 10) (pa_cons (pv 4) pa_nil))) pa_nil)) (nomark _)) (pw_or1 (pt_not (pt_cmpR (op_eqO PM.aE PM.nE PM.okE PM.bE (hr.mono (by decide)) pass0) (pe_op (op_binR (nm := "sub") rfl (.inr (.inl rfl)) slot_tup_sub slot_int_sub MS PS (hr.mono (by decide)) passL) (pv 9) (pv 6)) (pe_un (un_negQ NG (hr.mono (by decide)) passL) (pe_op (op_binL (nm := "sub") rfl slot_tup_sub slot_int_sub MS PS (hr.mono (by decide)) passL) (pv 6) (pv 9))) (nomark _))))))
      (pss_one (ps_ret pe_bl))
      pss_nil)
    (pss_cons (ps_par (i := 11) (j := 12) (by rfl) scLaw.nd rfl rfl (by decide) rfl rfl (pa_cons (pe_call G__law_ratio.ok (hr.mono (by decide)) rfl G__law_ratio.m G__law_ratio.kp G__law_ratio.b .nil pass0 (pa_cons (pv 1) (pa_cons pe_int pa_nil))) (pa_cons (pe_call G__law_pick.ok (hr.mono (by decide)) rfl G__law_pick.m G__law_pick.kp G__law_pick.b .nil pass0 (pa_cons (pv 1) (pa_cons (pe_lst (pa_cons (pe_tup (pa_cons pe_int (pa_cons pe_int pa_nil))) (pa_cons (pe_call G__law_ratio.ok (hr.mono (by decide)) rfl G__law_ratio.m G__law_ratio.kp G__law_ratio.b .nil pass0 (pa_cons (pv 1) (pa_cons pe_int pa_nil))) (pa_cons (pe_tup (pa_cons pe_int (pa_cons pe_int pa_nil))) pa_nil)))) pa_nil))) pa_nil)) (by rfl))
    (pss_cons (ps_if (pt_cmpR op_ne (pe_callB (id := "repr") (call_reprD hgu hr hm1) (by rfl) W.repr (by decide +kernel) (pa_cons (pe_meth (pv 6) PM.C.cl M_at.m M_at.ok (hr.mono (by decide)) M_at.b .nil passL (pa_cons (pe_call G__law_passed.ok (hr.mono (by decide)) rfl G__law_passed.m G__law_passed.kp G__law_passed.b .nil pass0 (pa_cons (pv 1) (pa_cons (pv 11) pa_nil))) pa_nil)) pa_nil)) (pe_callB (id := "repr") (call_reprD hgu hr hm1) (by rfl) W.repr (by decide +kernel) (pa_cons (pe_call G__law_p_at.ok (hr.mono (by decide)) rfl G__law_p_at.m G__law_p_at.kp G__law_p_at.b .nil pass0 (pa_cons (pv 4) (pa_cons (pv 11) pa_nil))) pa_nil)) (nomark _))
      (pss_one (ps_ret pe_bl))
      pss_nil)
    (pss_cons (ps_set (i := 13) scLaw.nd rfl (Or.inl rfl) (pe_meth (pv 6) PM.C.cl M_moved.m M_moved.ok (hr.mono (by decide)) M_moved.b .nil passL (pa_cons (pe_call G__law_passed.ok (hr.mono (by decide)) rfl G__law_passed.m G__law_passed.kp G__law_passed.b .nil pass0 (pa_cons (pv 1) (pa_cons (pv 11) pa_nil))) (pa_cons (pe_call G__law_passed.ok (hr.mono (by decide)) rfl G__law_passed.m G__law_passed.kp G__law_passed.b .nil pass0 (pa_cons (pv 1) (pa_cons (pv 12) pa_nil))) pa_nil))))
    (pss_cons (ps_if (PW.pt (pw_or (pt_cmpR (op_neT hu64 hm1) (pe_fld (pv 13) rfl) (pe_callTy call_tuple_of (by rfl) T.tuple (by decide +kernel) (pa_cons (pe_call G__law_p_moved.ok (hr.mono (by decide)) rfl G__law_p_moved.m G__law_p_moved.kp G__law_p_moved.b .nil pass0 (pa_cons (pv 4) (pa_cons (pv 11) (pa_cons (pv 12) pa_nil)))) pa_nil)) (nomark _)) (pw_or1 (pt_cmpR (op_neT hu64 hm1) (pe_fld (pv 6) rfl) (pe_callTy call_tuple_of (by rfl) T.tuple (by decide +kernel) (pa_cons (pv 4) pa_nil)) (nomark _)))))
      (pss_one (ps_ret pe_bl))
      pss_nil)
    (pss_cons (ps_asg (pe_tup (pa_cons (pe_call G__law_any.ok (hr.mono (by decide)) rfl G__law_any.m G__law_any.kp G__law_any.b .nil pass0 (pa_cons (pv 1) pa_nil)) (pa_cons (pe_call G__law_any.ok (hr.mono (by decide)) rfl G__law_any.m G__law_any.kp G__law_any.b .nil pass0 (pa_cons (pv 1) pa_nil)) pa_nil))) (pg_tup (by rfl) (pgs_cons (pg_name (i := 14) scLaw.nd rfl (Or.inr rfl)) (pgs_cons (pg_name (i := 15) scLaw.nd rfl (Or.inr rfl)) pgs_nil))))
    (pss_cons (ps_if (pt_cmpR (op_neT hu64 hm1) (LamX.pe_lamcall (T := Ts Pt) (TT := TWhy K C) (k := 9) rfl Y.m Y.kp Y.lk Y.hc Y.b scWhy rfl (.inl rfl) (why_gives W hgu hu160 hm1) hTB hcd (by rw [qual_eq]; exact ts_mem Pt) (by rw [qual_eq]; exact ts_only Pt) (hr.mono (by decide)) (show LamX.LamS (defScope sLaw) _ from LamX.lamS_by (by decide +kernel)) rfl (fun _ _ _ _ _ => rfl) (fun A' out' s' H' E' f' c' hr' => (pe_meth (pv 6) PM.C.cl M_at.m M_at.ok (hr'.mono (by decide)) M_at.b .nil (E := E') (passes_call (takes_of rfl rfl rfl rfl) (fun _ _ _ _ h => h)) (pa_cons (pv 14) pa_nil)))) (pe_tup (pa_cons pe_str (pa_cons pe_str (pa_cons (pe_callB (id := "repr") (call_reprD hgu hr hm1) (by rfl) W.repr (by decide +kernel) (pa_cons (pv 14) pa_nil)) pa_nil)))) (nomark _))
      (pss_one (ps_ret pe_bl))
      pss_nil)
    (pss_cons (ps_if (pt_cmpR (op_neT hu64 hm1) (LamX.pe_lamcall (T := Ts Pt) (TT := TWhy K C) (k := 9) rfl Y.m Y.kp Y.lk Y.hc Y.b scWhy rfl (.inl rfl) (why_gives W hgu hu160 hm1) hTB hcd (by rw [qual_eq]; exact ts_mem Pt) (by rw [qual_eq]; exact ts_only Pt) (hr.mono (by decide)) (show LamX.LamS (defScope sLaw) _ from LamX.lamS_by (by decide +kernel)) rfl (fun _ _ _ _ _ => rfl) (fun A' out' s' H' E' f' c' hr' => (pe_meth (pv 6) PM.C.cl M_moved.m M_moved.ok (hr'.mono (by decide)) M_moved.b .nil (E := E') (passes_call (takes_of rfl rfl rfl rfl) (fun _ _ _ _ h => h)) (pa_cons (pv 14) (pa_cons (pv 15) pa_nil))))) (pe_tup (pa_cons pe_str (pa_cons pe_str (pa_cons (pe_callB (id := "repr") (call_reprD hgu hr hm1) (by rfl) W.repr (by decide +kernel) (pa_cons (pv 14) pa_nil)) pa_nil)))) (nomark _))
      (pss_one (ps_ret pe_bl))
      pss_nil)
    (pss_one (ps_if (pt_cmpR (op_neT hu64 hm1) (LamX.pe_lamcall (T := Ts Pt) (TT := TWhy K C) (k := 9) rfl Y.m Y.kp Y.lk Y.hc Y.b scWhy rfl (.inl rfl) (why_gives W hgu hu160 hm1) hTB hcd (by rw [qual_eq]; exact ts_mem Pt) (by rw [qual_eq]; exact ts_only Pt) (hr.mono (by decide)) (show LamX.LamS (defScope sLaw) _ from LamX.lamS_by (by decide +kernel)) rfl (fun _ _ _ _ _ => rfl) (fun A' out' s' H' E' f' c' hr' => (pe_meth (pv 6) PM.C.cl M_moved.m M_moved.ok (hr'.mono (by decide)) M_moved.b .nil (E := E') (passes_call (takes_of rfl rfl rfl rfl) (fun _ _ _ _ h => h)) (pa_cons pe_int (pa_cons (pv 15) pa_nil))))) (pe_tup (pa_cons pe_str (pa_cons pe_str (pa_cons (pe_callB (id := "repr") (call_reprD hgu hr hm1) (by rfl) W.repr (by decide +kernel) (pa_cons (pv 15) pa_nil)) pa_nil)))) (nomark _))
      (pss_one (ps_ret pe_bl))
      pss_nil)))))))))))))))))))))))
  (pss_one (ps_ret pe_bl)))), ?_⟩
    refine ⟨_, rfl, sc, ns, rfl, hS, hns, fun p lc H1 s1 np nlc hP => ?_⟩
    have T1 : Tabs (Ts Pt) H1 := fun y hy => by
      rw [List.mem_singleton.mp hy]
      exact TabS.nil (s1 _ _ hPt)
    refine ⟨3, rfl, by decide, by decide, for_range (lo := 0) (n := 3) (fun i σ H => ∃ v2 v3 v4 v5 v6 v7 v8 v9 v10 v11 v12 v13 v14 v15 : Option V, σ = [some (.ref sc), some (.ref p), v2, v3, v4, v5, v6, v7, v8, v9, v10, v11, v12, v13, v14, v15] ∧ Pen H p lc (2000 * i) ∧ Tabs (Ts Pt) H)
      ⟨none, none, none, none, none, none, none, none, none, none, none, none, none, none, rfl, hP.more (by decide), T1⟩ ?_ ?_⟩
    · rintro i σ H ih ⟨v2, v3, v4, v5, v6, v7, v8, v9, v10, v11, v12, v13, v14, v15, rfl, hP0, T0⟩
      -- most
      refine ⟨_, rfl, (by show 3 ≤ sizeLine; decide), fun lm nlm => ?_⟩
      have elm : upd H lm (HO.lst [V.int 3, V.int 6, V.int 12]) lm = some (HO.lst [V.int 3, V.int 6, V.int 12]) := upd_same
      have s2 : Same H (upd H lm (HO.lst [V.int 3, V.int 6, V.int 12])) := same_upd nlm
      have lmp := (hP0.ne_new nlm).1
      generalize upd H lm (HO.lst [V.int 3, V.int 6, V.int 12]) = H2 at elm s2 ⊢
      have hP2 := hP0.same s2
      have T2 := T0.ext s2
      refine ⟨p, lc, lm, _, _, rfl, hP2, by omega, elm, lmp, (by show 0 < 3; decide), (by show 3 < 1000000; decide), fun x H3 hx hP3 k3 => ?_⟩
      have T3 := tabs_kp hP2 k3 T2
      obtain ⟨g, rfl, g0, g12⟩ : ∃ g : Int, x = .int g ∧ 0 ≤ g ∧ g ≤ 12 := by
        simp only [List.mem_cons, List.not_mem_nil, or_false] at hx
        rcases hx with h | h | h <;> exact ⟨_, h, by omega, by omega⟩
      -- one, two
      refine ⟨_, rfl, _, rfl, p, lc, _, g, 5, rfl, hP3, by omega, g0, g12, by decide, by decide, fun l1 A H4 hP4 k4 rA lA stA smA => ?_⟩
      have T4 := tabs_kp hP3 k4 T3
      refine ⟨_, rfl, _, rfl, p, lc, _, g, 5, rfl, hP4, by omega, g0, g12, by decide, by decide, fun l2 B1 H5 hP5 k5 rB lB stB smB => ?_⟩
      have T5 := tabs_kp hP4 k5 T4
      have rA5 := rA.kp hP4 k5
      refine ⟨_, _, rfl, ?_⟩
      -- two
      refine ⟨_, rfl, _, rfl, _, rfl, _, rfl, _, rfl, (by show 2 ≤ sizeLine; decide), fun t1 nt1 => ?_⟩
      have et1 : TR (upd H5 t1 (HO.tup [V.int (-1), V.int 1])) t1 (-1) := upd_same
      have s6 : Same H5 (upd H5 t1 (HO.tup [V.int (-1), V.int 1])) := same_upd nt1
      try dsimp only [] at nt1 ⊢
      generalize upd H5 t1 (HO.tup [V.int (-1), V.int 1]) = H6 at et1 s6 ⊢
      have smA' : ∀ i, Sm (cf A i) := fun i => ⟨by have := (smA i).1; omega, by have := (smA i).2; omega⟩
      have smB' : ∀ i, Sm (cf B1 i) := fun i => ⟨by have := (smB i).1; omega, by have := (smB i).2; omega⟩
      have srA : SrL A := fun i => sm_sr (smA' i)
      have srn : Sr (-1) := ⟨by show (1 : Nat) < 2 ^ 1900; exact Nat.one_lt_pow (by decide) (by decide), by show (1 : Nat) < 2 ^ 1900; exact Nat.one_lt_pow (by decide) (by decide)⟩
      refine ⟨l1, t1, A, -1, rfl, rA5.same s6, et1, by omega, srA, srn, fun l3 H7 s7 r3 => ?_⟩
      have T7 := (T5.ext s6).ext s7
      have hP7 := (hP5.same s6).same s7
      refine ⟨_, rfl, (by show 2 ≤ sizeLine; decide), fun t2 nt2 => ?_⟩
      have et2 : TR (upd H7 t2 (HO.tup [V.int 1, V.int 3])) t2 q3 := upd_same
      have s8 : Same H7 (upd H7 t2 (HO.tup [V.int 1, V.int 3])) := same_upd nt2
      try dsimp only [] at nt2 ⊢
      generalize upd H7 t2 (HO.tup [V.int 1, V.int 3]) = H8 at et2 s8 ⊢
      refine ⟨(by show 1 ≤ sizeLine; decide), fun l4 nl4 => ?_⟩
      have el4 : upd H8 l4 (HO.lst [V.ref t2]) l4 = some (HO.lst [V.ref t2]) := upd_same
      have s9 : Same H8 (upd H8 l4 (HO.lst [V.ref t2])) := same_upd nl4
      try dsimp only [tNil, List.append_nil] at nl4 ⊢
      generalize upd H8 l4 (HO.lst [V.ref t2]) = H9 at el4 s9 ⊢
      have s59 := s6.trans (s7.trans (s8.trans s9))
      have r4 : RL H9 l4 [q3] := ⟨[t2], el4, .cons (et2.same s9) .nil⟩
      have sq3 : SrL [q3] := fun i => by
        match i with
        | 0 => exact sr_q3
        | i + 1 => rw [cf_ge (by show 1 ≤ _; omega)]; exact sr_zero
      refine ⟨l1, l4, A, [q3], rfl, rA5.same s59, r4, by omega, (by show 1 ≤ 500; decide), srA, sq3, fun l5 H10 s10 r5 => ?_⟩
      have s510 := s59.trans s10
      have hP10 := hP5.same s510
      have T10 := T5.ext s510
      refine ⟨(by show 4 ≤ sizeLine; decide), fun l6 nl6 => ?_⟩
      have el6 : upd H10 l6 (HO.lst [V.ref l2, V.ref l2, V.ref l3, V.ref l5]) l6 = some (HO.lst [V.ref l2, V.ref l2, V.ref l3, V.ref l5]) := upd_same
      have s11 : Same H10 (upd H10 l6 (HO.lst [V.ref l2, V.ref l2, V.ref l3, V.ref l5])) := same_upd nl6
      have l6p := (hP10.ne_new nl6).1
      try dsimp only [] at nl6 ⊢
      generalize upd H10 l6 (HO.lst [V.ref l2, V.ref l2, V.ref l3, V.ref l5]) = H11 at el6 s11 ⊢
      have hP11 := hP10.same s11
      have T11 := T10.ext s11
      refine ⟨p, lc, l6, _, _, rfl, hP11, by omega, el6, l6p, (by show 0 < 4; decide), (by show 4 < 1000000; decide), fun x H12 hx hP12 k12 => ?_⟩
      have T12 := tabs_kp hP11 k12 T11
      have rA12 : RL H12 l1 A := (rA5.same (s510.trans s11)).kp hP11 k12
      obtain ⟨l2, Bq, rfl, rB12, lBq, stBq, smBq⟩ : ∃ lt Bq, x = V.ref lt ∧ RL H12 lt Bq ∧ Bq.length ≤ 13 ∧ stripQ Bq = Bq ∧ ∀ i, Sm (cf Bq i) := by
        have r2 : RL H12 l2 B1 := (rB.same (s510.trans s11)).kp hP11 k12
        have r3' : RL H12 l3 _ := (r3.same (s8.trans (s9.trans (s10.trans s11)))).kp hP11 k12
        have r5' : RL H12 l5 _ := (r5.same s11).kp hP11 k12
        simp only [List.mem_cons, List.not_mem_nil, or_false] at hx
        rcases hx with h | h | h | h
        · exact ⟨l2, B1, h, r2, lB, stB, smB'⟩
        · exact ⟨l2, B1, h, r2, lB, stB, smB'⟩
        · refine ⟨l3, _, h, r3', ?_, stripQ_id (stripQ_stp _), fun i => ?_⟩
          · have := stripQ_len (pscale A (-1))
            unfold pscale at *
            rw [List.length_map] at this
            omega
          · rw [cf_stripQ]
            unfold pscale
            rw [cf_map (f := fun q => q * -1) (Rat.zero_mul _)]
            have e : cf A i * -1 = -cf A i := by grind
            rw [e]
            exact sm_neg (smA' i)
        · refine ⟨l5, _, h, r5', ?_, stripQ_id (stripQ_stp _), fun i => ?_⟩
          · have := stripQ_len (padd A [q3])
            have e : (padd A [q3]).length = max A.length 1 := by unfold padd; rw [tab_len]; rfl
            omega
          · rw [cf_stripQ, cf_padd]
            match i with
            | 0 => exact sm_third (smA 0)
            | i + 1 =>
              rw [cf_ge (l := [q3]) (by show 1 ≤ _; omega), Rat.add_zero]
              exact smA' _
      -- a, b
      refine ⟨_, rfl, _, rfl, p, lc, l1, _, A, rfl, hP12, by omega, rA12, lA, stA, smA', fun a H13 hP13 k13 pA => ?_⟩
      have T13 := tabs_kp hP12 k13 T12
      refine ⟨_, rfl, _, rfl, p, lc, l2, _, Bq, rfl, hP13, by omega, rB12.kp hP12 k13, lBq, stBq, smBq, fun b H14 hP14 k14 pB => ?_⟩
      have T14 := tabs_kp hP13 k14 T13
      refine ⟨(by show 2 ≤ sizeLine; decide), fun t3 nt3 => ?_⟩
      have et3 : upd H14 t3 (HO.tup [V.ref a, V.ref b]) t3 = some (HO.tup [V.ref a, V.ref b]) := upd_same
      have s15 : Same H14 (upd H14 t3 (HO.tup [V.ref a, V.ref b])) := same_upd nt3
      try dsimp only [] at nt3 ⊢
      generalize upd H14 t3 (HO.tup [V.ref a, V.ref b]) = Ha at et3 s15 ⊢
      have rA : RL Ha l1 A := ((rA12.kp hP12 k13).kp hP13 k14).same s15
      have rB : RL Ha l2 Bq := ((rB12.kp hP12 k13).kp hP13 k14).same s15
      have pA : PolyQ K CP Ha a A := (pA.kp hP13 k14).same s15
      have pB : PolyQ K CP Ha b Bq := pB.same s15
      have hPa : Pen Ha p lc (2000 * i + 500) := (hP14.more (by omega)).same s15
      have Ta := T14.ext s15
      refine ⟨t3, _, rfl, SqT.of et3, rfl, _, _, rfl, _, _, rfl, rfl, ?_⟩
      clear hP T1 s1 hP0 T0 s2 hP2 T2 hP3 T3 hP4 T4 hP5 T5 rA5 hP7 T7 hP10 T10 hP11 T11 hP12 T12 hP13 T13 hP14 T14 rA12 rB12 r3 r4 r5 k3 k4 k5 k12 k13 k14 s6 s7 s8 s9 s10 s11 s59 s510 s15 hx elm el4 el6 et1 et2 et3 nl4 nl6 nt1 nt2 nt3 nlm l6p lmp
      obtain ⟨MA_, NA_, mA0, nA0, mAb, nAb, frA⟩ := fr_all lA smA'
      obtain ⟨MB_, NB_, mB0, nB0, mBb, nBb, frB⟩ := fr_all lBq smBq
      have srB : SrL Bq := fun i => sm_sr (smBq i)
      -- a + b
      refine ⟨_, rfl, _, rfl, a, A, Bq, rfl, pA, .inl ⟨b, rfl, pB⟩, lA, lBq, smA', smBq, fun z Hb sb pz => ?_⟩
      obtain ⟨dz, tz, zs, hz1, hz2, hz3⟩ := pz
      have lR : (stripQ (padd A Bq)).length ≤ 30 := by
        have := stripQ_len (padd A Bq)
        have e : (padd A Bq).length = max A.length Bq.length := by unfold padd; rw [tab_len]
        omega
      have smR := small_sr (by omega) (sr_plus smA' smBq)
      refine ⟨z, CP, dz, _, .ref tz, rfl, hz1, PM.C.cl, PM.C.nf, (by kernel_rfl), .ref tz, _, rfl, .tup (SqT.of hz2) hz3.dts, smR, ?_⟩
      refine ⟨_, rfl, _, rfl, l1, l2, A, Bq, rfl, rA.same sb, rB.same sb, by omega, by omega, srA, srB, fun l Hc sd rl => ?_⟩
      skip
      obtain ⟨es, el, te⟩ := rl
      refine ⟨l, _, rfl, .inl ⟨SqL.of el, fun tg ntg => ?_⟩⟩
      have etg : upd Hc tg (HO.tup (es.map V.ref)) tg = some (HO.tup (es.map V.ref)) := upd_same
      have se : Same Hc (upd Hc tg (HO.tup (es.map V.ref))) := same_upd ntg
      generalize upd Hc tg (HO.tup (es.map V.ref)) = Hd at etg se ⊢
      refine ⟨.ref tg, _, rfl, .tup (SqT.of etg) (te.same se).dts, smR, ?_⟩
      refine rNe_no rfl ?_
      refine iteF ?_
      have sad := sb.trans (sd.trans se)
      replace rA := rA.same sad
      replace rB := rB.same sad
      replace pA := pA.same sad
      replace pB := pB.same sad
      replace hPa := hPa.same sad
      replace Ta := Ta.ext sad
      clear sad sb sd se etg ntg te el hz1 hz2 hz3 smR lR
      -- a - b
      refine ⟨_, rfl, _, rfl, a, A, Bq, rfl, pA, .inl ⟨b, rfl, pB⟩, lA, lBq, smA', smBq, fun z Hb sb pz => ?_⟩
      obtain ⟨dz, tz, zs, hz1, hz2, hz3⟩ := pz
      have lR : (stripQ (padd A (Bq.map (- ·)))).length ≤ 30 := by
        have := stripQ_len (padd A (Bq.map (- ·)))
        have e : (padd A (Bq.map (- ·))).length = max A.length Bq.length := by unfold padd; rw [tab_len]; rw [List.length_map]
        omega
      have smR := small_sr (by omega) (sr_plus smA' (sm_negs smBq))
      refine ⟨z, CP, dz, _, .ref tz, rfl, hz1, PM.C.cl, PM.C.nf, (by kernel_rfl), .ref tz, _, rfl, .tup (SqT.of hz2) hz3.dts, smR, ?_⟩
      refine ⟨_, rfl, _, rfl, l1, l2, A, Bq, rfl, rA.same sb, rB.same sb, by omega, by omega, srA, srB, fun l Hc sd rl => ?_⟩
      rw [minus_eq] at rl
      obtain ⟨es, el, te⟩ := rl
      refine ⟨l, _, rfl, .inl ⟨SqL.of el, fun tg ntg => ?_⟩⟩
      have etg : upd Hc tg (HO.tup (es.map V.ref)) tg = some (HO.tup (es.map V.ref)) := upd_same
      have se : Same Hc (upd Hc tg (HO.tup (es.map V.ref))) := same_upd ntg
      generalize upd Hc tg (HO.tup (es.map V.ref)) = Hd at etg se ⊢
      refine ⟨.ref tg, _, rfl, .tup (SqT.of etg) (te.same se).dts, smR, ?_⟩
      refine rNe_no rfl ?_
      refine iteF ?_
      have sad := sb.trans (sd.trans se)
      replace rA := rA.same sad
      replace rB := rB.same sad
      replace pA := pA.same sad
      replace pB := pB.same sad
      replace hPa := hPa.same sad
      replace Ta := Ta.ext sad
      clear sad sb sd se etg ntg te el hz1 hz2 hz3 smR lR
      -- a * b
      refine ⟨_, rfl, _, rfl, a, A, Bq, rfl, pA, .inl ⟨b, rfl, pB⟩, lA, lBq, smA', smBq, fun z Hb sb pz => ?_⟩
      obtain ⟨dz, tz, zs, hz1, hz2, hz3⟩ := pz
      have lR : (stripQ (pmul A Bq)).length ≤ 30 := by
        have := stripQ_len (pmul A Bq)
        have e : (pmul A Bq).length = A.length + Bq.length - 1 := by unfold pmul; rw [tab_len]
        omega
      have smR := small_sr (by omega) (sr_times lA lBq frA frB mA0 mB0 (mul_lt mAb mBb (by decide)) (mul_lt nAb nBb (by decide)))
      refine ⟨z, CP, dz, _, .ref tz, rfl, hz1, PM.C.cl, PM.C.nf, (by kernel_rfl), .ref tz, _, rfl, .tup (SqT.of hz2) hz3.dts, smR, ?_⟩
      refine ⟨_, rfl, _, rfl, l1, l2, A, Bq, MA_, NA_, MB_, NB_, rfl, rA.same sb, rB.same sb, by omega, by omega, mA0, mB0, nA0, nB0, frA, frB, by have := mul_lt mAb mBb (by decide); omega, mul_lt nAb nBb (by decide), fun l Hc sd rl => ?_⟩
      skip
      obtain ⟨es, el, te⟩ := rl
      refine ⟨l, _, rfl, .inl ⟨SqL.of el, fun tg ntg => ?_⟩⟩
      have etg : upd Hc tg (HO.tup (es.map V.ref)) tg = some (HO.tup (es.map V.ref)) := upd_same
      have se : Same Hc (upd Hc tg (HO.tup (es.map V.ref))) := same_upd ntg
      generalize upd Hc tg (HO.tup (es.map V.ref)) = Hd at etg se ⊢
      refine ⟨.ref tg, _, rfl, .tup (SqT.of etg) (te.same se).dts, smR, ?_⟩
      refine rNe_no rfl ?_
      refine iteF ?_
      have sad := sb.trans (sd.trans se)
      replace rA := rA.same sad
      replace rB := rB.same sad
      replace pA := pA.same sad
      replace pB := pB.same sad
      replace hPa := hPa.same sad
      replace Ta := Ta.ext sad
      clear sad sb sd se etg ntg te el hz1 hz2 hz3 smR lR
      -- -a, the slope
      have denA : ∀ q ∈ A, q.den < 2 ^ big := fun q hq => by
        obtain ⟨j, rfl⟩ := mem_cf hq
        exact Nat.lt_of_le_of_lt (smA' j).2 (Nat.pow_lt_pow_right (by decide) (by decide))
      refine ⟨_, rfl, a, A, rfl, pA, by omega, denA, fun z Hb sb pz => ?_⟩
      obtain ⟨dz, tz, zs, hz1, hz2, hz3⟩ := pz
      refine ⟨z, CP, dz, _, .ref tz, rfl, hz1, PM.C.cl, PM.C.nf, (by kernel_rfl), ?_⟩
      refine ⟨_, rfl, _, rfl, (by show 2 ≤ sizeLine; decide), fun t1 nt1 => ?_⟩
      have et1 : TR (upd Hb t1 (HO.tup [V.int (-1), V.int 1])) t1 (-1) := upd_same
      have sc1 : Same Hb (upd Hb t1 (HO.tup [V.int (-1), V.int 1])) := same_upd nt1
      try dsimp only [] at nt1 ⊢
      generalize upd Hb t1 (HO.tup [V.int (-1), V.int 1]) = Hb1 at et1 sc1 ⊢
      refine ⟨l1, t1, A, -1, rfl, (rA.same sb).same sc1, et1, by omega, srA, srn, fun l Hc sd rl => ?_⟩
      rw [neg_eq] at rl
      obtain ⟨es, el, te⟩ := rl
      refine ⟨l, _, rfl, .inl ⟨SqL.of el, fun tg ntg => ?_⟩⟩
      have etg : upd Hc tg (HO.tup (es.map V.ref)) tg = some (HO.tup (es.map V.ref)) := upd_same
      have se : Same Hc (upd Hc tg (HO.tup (es.map V.ref))) := same_upd ntg
      generalize upd Hc tg (HO.tup (es.map V.ref)) = Hd at etg se ⊢
      refine ⟨_, _, .tup (SqT.of ((sc1.trans (sd.trans se)) _ _ hz2)) (hz3.same (sc1.trans (sd.trans se))).dts, .tup (SqT.of etg) (te.same se).dts, (plain_row _).1, (plain_row _).1, (depth_row _).1, ?_⟩
      rw [eqv_row, decide_eq_true rfl]
      refine ⟨_, rfl, ?_⟩
      refine iteF ?_
      have sad := sb.trans (sc1.trans (sd.trans se))
      replace rA := rA.same sad
      replace rB := rB.same sad
      replace pA := pA.same sad
      replace hPa := hPa.same sad
      replace Ta := Ta.ext sad
      clear sad sb sd se etg ntg te el hz1 hz2 hz3 et1 nt1 sc1
      have pA1 := pA
      obtain ⟨da, ta, za, ha1, ha2, ha3⟩ := pA1
      refine ⟨_, rfl, a, da, _, rfl, ha1, (by kernel_rfl), a, A, rfl, pA, lA, smA', fun z Hb sb pz => ?_⟩
      obtain ⟨dz, tz, zs, hz1, hz2, hz3⟩ := pz
      refine ⟨z, CP, dz, _, .ref tz, rfl, hz1, PM.C.cl, PM.C.nf, (by kernel_rfl), ?_⟩
      refine ⟨_, rfl, l1, A, rfl, rA.same sb, by omega, srA, fun l Hc sd rl => ?_⟩
      obtain ⟨es, el, te⟩ := rl
      refine ⟨l, _, rfl, .inl ⟨SqL.of el, fun tg ntg => ?_⟩⟩
      have etg : upd Hc tg (HO.tup (es.map V.ref)) tg = some (HO.tup (es.map V.ref)) := upd_same
      have se : Same Hc (upd Hc tg (HO.tup (es.map V.ref))) := same_upd ntg
      generalize upd Hc tg (HO.tup (es.map V.ref)) = Hd at etg se ⊢
      refine ⟨_, _, .tup (SqT.of ((sd.trans se) _ _ hz2)) (hz3.same (sd.trans se)).dts, .tup (SqT.of etg) (te.same se).dts, (plain_row _).1, (plain_row _).1, (depth_row _).1, ?_⟩
      rw [eqv_row, decide_eq_true rfl]
      refine ⟨_, rfl, ?_⟩
      refine iteF ?_
      have sad := sb.trans (sd.trans se)
      replace rA := rA.same sad
      replace rB := rB.same sad
      replace pA := pA.same sad
      replace hPa := hPa.same sad
      replace Ta := Ta.ext sad
      clear sad sb sd se etg ntg te el hz1 hz2 hz3 ha1 ha2 ha3
      -- by
      refine ⟨_, rfl, p, lc, _, 7, rfl, by decide, by decide, hPa, by omega, fun rb t0 b0 Hb hPb kb eb lwb ztb zbb => ?_⟩
      obtain ⟨qb, rfl, rfl, smb⟩ := smd_of lwb ztb zbb
      have Tb := tabs_kp hPa kb Ta
      replace rA := rA.kp hPa kb
      replace pA := pA.kp hPa kb
      have tb : TR Hb rb qb := eb
      have nb3 : qb.num.natAbs < 2 ^ 3900 := lt_4000 (k := 13) (le_k (by have := smb.1; omega) (by decide)) (by decide)
      have db3 : ((qb.den : Int)).natAbs < 2 ^ 3900 := lt_4000 (k := 13) (le_k (by have := smb.2; omega) (by decide)) (by decide)
      have l3b : (3 : Int).natAbs < 2 ^ 3900 := lt_4000 (k := 13) (by decide) (by decide)
      -- passed, flat
      refine ⟨_, rfl, _, rfl, _, rfl, rb, _, _, .int qb.num, rfl, rfl, SqT.of tb, at_of (j := 0) rfl rfl, _, _, rfl, rfl, big_mulW l3b nb3, _, rfl, rb, _, _, .int (qb.den : Int), rfl, rfl, SqT.of tb, at_of (j := 1) rfl rfl, _, _, rfl, rfl, big_mulW l3b db3, (by show 2 ≤ sizeLine; decide), fun t3 nt3 => ?_⟩
      have et3 : upd Hb t3 (HO.tup [V.int (3 * qb.num), V.int (3 * (qb.den : Int))]) t3 = some (HO.tup [V.int (3 * qb.num), V.int (3 * (qb.den : Int))]) := upd_same
      have sb1 : Same Hb (upd Hb t3 (HO.tup [V.int (3 * qb.num), V.int (3 * (qb.den : Int))])) := same_upd nt3
      try dsimp only [] at nt3 ⊢
      generalize upd Hb t3 (HO.tup [V.int (3 * qb.num), V.int (3 * (qb.den : Int))]) = Hb1 at et3 sb1 ⊢
      refine ⟨(by show 2 ≤ sizeLine; decide), fun l3 nl3 => ?_⟩
      have el3 : upd Hb1 l3 (HO.lst [V.ref rb, V.ref t3]) l3 = some (HO.lst [V.ref rb, V.ref t3]) := upd_same
      have sb2 : Same Hb1 (upd Hb1 l3 (HO.lst [V.ref rb, V.ref t3])) := same_upd nl3
      try dsimp only [] at nl3 ⊢
      generalize upd Hb1 l3 (HO.lst [V.ref rb, V.ref t3]) = Hb2 at el3 sb2 ⊢
      have tb2 : TR Hb2 rb qb := sb2 _ _ (sb1 _ _ tb)
      refine ⟨_, rfl, rb, _, _, .int (qb.den : Int), rfl, rfl, SqT.of tb2, at_of (j := 1) rfl rfl, rfl, _, rfl, ?_⟩
      refine if_list tb2 rfl fun l4 ws Hb3 sb3 el4 lws hws => ?_
      refine ⟨l3, l4, _, _, rfl, rfl, sb3 _ _ el3, el4, (by rw [sizeLine_eq]; show 2 + ws.length ≤ _; omega), fun l5 nl5 => ?_⟩
      have el5 : upd Hb3 l5 (HO.lst ([V.ref rb, V.ref t3] ++ ws)) l5 = some (HO.lst ([V.ref rb, V.ref t3] ++ ws)) := upd_same
      have sb4 : Same Hb3 (upd Hb3 l5 (HO.lst ([V.ref rb, V.ref t3] ++ ws))) := same_upd nl5
      have sb03 := sb1.trans (sb2.trans sb3)
      have l5p := ((hPb.same sb03).ne_new nl5).1
      generalize upd Hb3 l5 (HO.lst ([V.ref rb, V.ref t3] ++ ws)) = Hb4 at el5 sb4 ⊢
      have sb04 := sb03.trans sb4
      have hPb4 := hPb.same sb04
      refine ⟨p, lc, l5, _, _, rfl, hPb4, by omega, el5, l5p, (by rw [List.length_append]; show 0 < 2 + ws.length; omega), (by rw [List.length_append]; show 2 + ws.length < 1000000; omega), fun x Hc hx hPc kc => ?_⟩
      have Tc := tabs_kp hPb4 kc (Tb.ext sb04)
      replace rA := (rA.same sb04).kp hPb4 kc
      replace pA := (pA.same sb04).kp hPb4 kc
      have tbc : TR Hc rb qb := (tb.same sb04).kp hPb4 kc
      have t3p : t3 ≠ p := ((hPb.ne_new nt3)).1
      have hrx : RatT Hc x (stripQ [qb]) := by
        rcases List.mem_append.mp hx with h | h
        · simp only [List.mem_cons, List.not_mem_nil, or_false] at h
          rcases h with h | h <;> rw [h]
          · exact rat_by tbc smb.2
          · exact rat_by3 (kc _ _ t3p ((sb2.trans (sb3.trans sb4)) _ _ et3)) smb.2
        · obtain ⟨t, rfl, e⟩ := hws x h
          exact .inl ⟨t, rfl, by rw [e]⟩
      refine ⟨_, rfl, (by show 1 ≤ sizeLine; decide), fun l7 nl7 => ?_⟩
      have el7 : upd Hc l7 (HO.lst [V.ref rb]) l7 = some (HO.lst [V.ref rb]) := upd_same
      have sc7 : Same Hc (upd Hc l7 (HO.lst [V.ref rb])) := same_upd nl7
      try dsimp only [tNil, List.append_nil] at nl7 ⊢
      generalize upd Hc l7 (HO.lst [V.ref rb]) = Hc1 at el7 sc7 ⊢
      refine lpoly_q (K := K) (E := E0) (qs := [qb]) ⟨[rb], el7, .cons (tbc.same sc7) .nil⟩ (by show 1 ≤ 1000; decide) fun lf Hf sf rF => ?_
      refine ⟨_, _, rfl, ?_⟩
      have scf := sc7.trans sf
      replace rA := rA.same scf
      replace pA := pA.same scf
      replace hrx := hrx.same scf
      have hPf : Pen Hf p lc (2000 * i + 600) := (hPc.more (by omega)).same scf
      have Tf := Tc.ext scf
      have smF : ∀ j, Sm (cf (stripQ [qb]) j) := fun j => by
        rw [cf_one]
        split
        · exact ⟨le_k (by have := smb.1; omega) (by decide), le_k (by have := smb.2; omega) (by decide)⟩
        · exact sm_zero'
      have lF : (stripQ [qb]).length ≤ 13 := by
        have := stripQ_len [qb]
        simp only [List.length_cons, List.length_nil] at this
        omega
      clear hPb Tb eb tb tb2 el3 el4 el5 el7 et3 sb1 sb2 sb3 sb4 sb03 sb04 hPb4 kb kc hPc Tc tbc sc7 sf scf nl3 nl5 nl7 nt3 t3p l5p hx hws hPa Ta
      generalize stripQ [qb] = F1 at *
      obtain ⟨MF_, NF_, mF0, nF0, mFb, nFb, frF⟩ := fr_all lF smF
      have srF : SrL F1 := fun j => sm_sr (smF j)
      -- a + passed
      refine ⟨_, rfl, _, rfl, a, A, F1, rfl, pA, .inr (hrx), lA, lF, smA', smF, fun z1 Hb sb pz1 => ?_⟩
      refine ⟨_, rfl, _, rfl, a, A, F1, rfl, pA.same sb, hrx.same sb, lA, lF, smA', smF, fun z2 Hc sc2 pz2 => ?_⟩
      have pz1' := pz1.same sc2
      have pzz := pz1'
      obtain ⟨dz, tz, zs, hz1, hz2, hz3⟩ := pzz
      refine ⟨z1, dz, _, .ref CP, rfl, hz1, PolyAt.ty PM.C pz2, PM.C.fs, z1, _, .ref z2, rfl, pz1', .inl ⟨z2, _, rfl, pz2, ?_⟩⟩
      rw [decide_eq_true (congrArg (List.map pq) (add_comm' _ _))]
      refine ⟨_, rfl, ?_⟩
      refine iteF ?_
      have sad := sb.trans sc2
      replace rA := rA.same sad
      replace rF := rF.same sad
      replace pA := pA.same sad
      replace hrx := hrx.same sad
      replace hPf := hPf.same sad
      replace Tf := Tf.ext sad
      clear sad sb sc2 pz1 pz1' pz2 hz1 hz2 hz3
      refine ⟨_, rfl, _, rfl, a, A, F1, rfl, pA, .inr (hrx), lA, lF, smA', smF, fun z Hb sb pz => ?_⟩
      obtain ⟨dz, tz, zs, hz1, hz2, hz3⟩ := pz
      refine ⟨z, CP, dz, _, .ref tz, rfl, hz1, PM.C.cl, PM.C.nf, (by kernel_rfl), ?_⟩
      refine ⟨_, rfl, _, rfl, l1, lf, A, F1, rfl, rA.same sb, rF.same sb, by omega, by omega, srA, srF, fun l Hc sd rl => ?_⟩
      skip
      obtain ⟨es, el, te⟩ := rl
      refine ⟨l, _, rfl, .inl ⟨SqL.of el, fun tg ntg => ?_⟩⟩
      have etg : upd Hc tg (HO.tup (es.map V.ref)) tg = some (HO.tup (es.map V.ref)) := upd_same
      have se : Same Hc (upd Hc tg (HO.tup (es.map V.ref))) := same_upd ntg
      generalize upd Hc tg (HO.tup (es.map V.ref)) = Hd at etg se ⊢
      refine ⟨_, _, .tup (SqT.of ((sd.trans se) _ _ hz2)) (hz3.same (sd.trans se)).dts, .tup (SqT.of etg) (te.same se).dts, (plain_row _).1, (plain_row _).1, (depth_row _).1, ?_⟩
      rw [eqv_row, decide_eq_true rfl]
      refine ⟨_, rfl, ?_⟩
      refine iteF ?_
      have sad := sb.trans (sd.trans se)
      replace rA := rA.same sad
      replace rF := rF.same sad
      replace pA := pA.same sad
      replace hrx := hrx.same sad
      replace hPf := hPf.same sad
      replace Tf := Tf.ext sad
      clear sad sb sd se etg ntg te el hz1 hz2 hz3
      -- a * passed
      refine ⟨_, rfl, _, rfl, a, A, F1, rfl, pA, .inr (hrx), lA, lF, smA', smF, fun z1 Hb sb pz1 => ?_⟩
      refine ⟨_, rfl, _, rfl, a, A, F1, rfl, pA.same sb, hrx.same sb, lA, lF, smA', smF, fun z2 Hc sc2 pz2 => ?_⟩
      have pz1' := pz1.same sc2
      have pzz := pz1'
      obtain ⟨dz, tz, zs, hz1, hz2, hz3⟩ := pzz
      refine ⟨z1, dz, _, .ref CP, rfl, hz1, PolyAt.ty PM.C pz2, PM.C.fs, z1, _, .ref z2, rfl, pz1', .inl ⟨z2, _, rfl, pz2, ?_⟩⟩
      rw [decide_eq_true (congrArg (List.map pq) (mul_comm' _ _))]
      refine ⟨_, rfl, ?_⟩
      refine iteF ?_
      have sad := sb.trans sc2
      replace rA := rA.same sad
      replace rF := rF.same sad
      replace pA := pA.same sad
      replace hrx := hrx.same sad
      replace hPf := hPf.same sad
      replace Tf := Tf.ext sad
      clear sad sb sc2 pz1 pz1' pz2 hz1 hz2 hz3
      refine ⟨_, rfl, _, rfl, a, A, F1, rfl, pA, hrx, lA, lF, smA', smF, fun z Hb sb pz => ?_⟩
      obtain ⟨dz, tz, zs, hz1, hz2, hz3⟩ := pz
      refine ⟨z, CP, dz, _, .ref tz, rfl, hz1, PM.C.cl, PM.C.nf, (by kernel_rfl), ?_⟩
      refine ⟨_, rfl, _, rfl, l1, lf, A, F1, MA_, NA_, MF_, NF_, rfl, rA.same sb, rF.same sb, by omega, by omega, mA0, mF0, nA0, nF0, frA, frF, by have := mul_lt mAb mFb (by decide); omega, mul_lt nAb nFb (by decide), fun l Hc sd rl => ?_⟩
      rw [mul_comm'] at rl
      obtain ⟨es, el, te⟩ := rl
      refine ⟨l, _, rfl, .inl ⟨SqL.of el, fun tg ntg => ?_⟩⟩
      have etg : upd Hc tg (HO.tup (es.map V.ref)) tg = some (HO.tup (es.map V.ref)) := upd_same
      have se : Same Hc (upd Hc tg (HO.tup (es.map V.ref))) := same_upd ntg
      generalize upd Hc tg (HO.tup (es.map V.ref)) = Hd at etg se ⊢
      refine ⟨_, _, .tup (SqT.of ((sd.trans se) _ _ hz2)) (hz3.same (sd.trans se)).dts, .tup (SqT.of etg) (te.same se).dts, (plain_row _).1, (plain_row _).1, (depth_row _).1, ?_⟩
      rw [eqv_row, decide_eq_true rfl]
      refine ⟨_, rfl, ?_⟩
      refine iteF ?_
      have sad := sb.trans (sd.trans se)
      replace rA := rA.same sad
      replace rF := rF.same sad
      replace pA := pA.same sad
      replace hrx := hrx.same sad
      replace hPf := hPf.same sad
      replace Tf := Tf.ext sad
      clear sad sb sd se etg ntg te el hz1 hz2 hz3
      -- passed - a
      refine ⟨_, rfl, _, rfl, a, A, F1, rfl, pA, hrx, lA, lF, smA', smF, fun z Hb sb pz => ?_⟩
      obtain ⟨dz, tz, zs, hz1, hz2, hz3⟩ := pz
      refine ⟨z, CP, dz, _, .ref tz, rfl, hz1, PM.C.cl, PM.C.nf, (by kernel_rfl), ?_⟩
      refine ⟨_, rfl, _, rfl, lf, l1, F1, A, rfl, rF.same sb, rA.same sb, by omega, by omega, srF, srA, fun l Hc sd rl => ?_⟩
      rw [minus_eq] at rl
      obtain ⟨es, el, te⟩ := rl
      refine ⟨l, _, rfl, .inl ⟨SqL.of el, fun tg ntg => ?_⟩⟩
      have etg : upd Hc tg (HO.tup (es.map V.ref)) tg = some (HO.tup (es.map V.ref)) := upd_same
      have se : Same Hc (upd Hc tg (HO.tup (es.map V.ref))) := same_upd ntg
      generalize upd Hc tg (HO.tup (es.map V.ref)) = Hd at etg se ⊢
      refine ⟨_, _, .tup (SqT.of ((sd.trans se) _ _ hz2)) (hz3.same (sd.trans se)).dts, .tup (SqT.of etg) (te.same se).dts, (plain_row _).1, (plain_row _).1, (depth_row _).1, ?_⟩
      rw [eqv_row, decide_eq_true rfl]
      refine ⟨_, rfl, ?_⟩
      refine iteF ?_
      have sad := sb.trans (sd.trans se)
      replace rA := rA.same sad
      replace rF := rF.same sad
      replace pA := pA.same sad
      replace hrx := hrx.same sad
      replace hPf := hPf.same sad
      replace Tf := Tf.ext sad
      clear sad sb sd se etg ntg te el hz1 hz2 hz3
      refine ⟨_, rfl, _, rfl, a, A, F1, rfl, pA, hrx, lA, lF, smA', smF, fun z1 Hb sb pz1 => ?_⟩
      refine ⟨_, rfl, _, rfl, a, A, F1, rfl, pA.same sb, .inr (hrx.same sb), lA, lF, smA', smF, fun z2 Hc sc2 pz2 => ?_⟩
      refine ⟨z2, _, rfl, pz2, ?_, den_sub smA' smF, fun z3 Hd sd3 pz3 => ?_⟩
      · show (stripQ (padd A (F1.map (- ·)))).length ≤ 500
        have := stripQ_len (padd A (F1.map (- ·)))
        have e : (padd A (F1.map (- ·))).length = max A.length F1.length := by unfold padd; rw [tab_len, List.length_map]
        omega
      have pz1' := (pz1.same sc2).same sd3
      have pzz := pz1'
      obtain ⟨dz, tz, zs, hz1, hz2, hz3⟩ := pzz
      refine ⟨z1, dz, _, .ref CP, rfl, hz1, PolyAt.ty PM.C pz3, PM.C.fs, z1, _, .ref z3, rfl, pz1', .inl ⟨z3, _, rfl, pz3, ?_⟩⟩
      rw [decide_eq_true (congrArg (List.map pq) (neg_sub' A F1))]
      refine ⟨_, rfl, ?_⟩
      refine iteF ?_
      have sad := sb.trans (sc2.trans sd3)
      replace rA := rA.same sad
      replace rF := rF.same sad
      replace pA := pA.same sad
      replace hrx := hrx.same sad
      replace hPf := hPf.same sad
      replace Tf := Tf.ext sad
      clear sad sb sc2 sd3 pz1 pz1' pz2 pz3 hz1 hz2 hz3 hrx rF frF srF mF0 nF0 mFb nFb smF lF
      -- start, step
      refine ⟨_, rfl, p, lc, _, 3, rfl, by decide, by decide, hPf, by omega, fun rs t0 b0 Hs hPs ks es lws zts zbs => ?_⟩
      obtain ⟨qs, rfl, rfl, sms⟩ := smd_of lws zts zbs
      replace rA := rA.kp hPf ks
      replace pA := pA.kp hPf ks
      have Ts1 := tabs_kp hPf ks Tf
      have ts : TR Hs rs qs := es
      refine ⟨_, rfl, (by show 2 ≤ sizeLine; decide), fun t1 nt1 => ?_⟩
      have et1 : TR (upd Hs t1 (HO.tup [V.int 0, V.int 1])) t1 0 := upd_same
      have sx : Same Hs (upd Hs t1 (HO.tup [V.int 0, V.int 1])) := same_upd nt1
      try dsimp only [] at nt1 ⊢
      generalize upd Hs t1 (HO.tup [V.int 0, V.int 1]) = Hu at et1 sx ⊢
      replace rA := rA.same sx
      replace pA := pA.same sx
      replace ts := ts.same sx
      have hPu := hPs.same sx
      have Tu := Ts1.ext sx
      refine ⟨_, rfl, p, lc, _, 3, rfl, by decide, by decide, hPu, by omega, fun r2 t2 b2 Hv hPv kv ev lwv ztv zbv => ?_⟩
      obtain ⟨q2, rfl, rfl, sm2⟩ := smd_of lwv ztv zbv
      replace rA := rA.kp hPu kv
      replace pA := pA.kp hPu kv
      replace ts := ts.kp hPu kv
      replace et1 := et1.kp hPu kv
      have Tv := tabs_kp hPu kv Tu
      have tv : TR Hv r2 q2 := ev
      refine ⟨(by show 2 ≤ sizeLine; decide), fun t4 nt4 => ?_⟩
      have et4 : TR (upd Hv t4 (HO.tup [V.int 1, V.int 2])) t4 qh := upd_same
      have sy : Same Hv (upd Hv t4 (HO.tup [V.int 1, V.int 2])) := same_upd nt4
      try dsimp only [] at nt4 ⊢
      generalize upd Hv t4 (HO.tup [V.int 1, V.int 2]) = Hw at et4 sy ⊢
      refine ⟨(by show 3 ≤ sizeLine; decide), fun l3 nl3 => ?_⟩
      have el3 : upd Hw l3 (HO.lst [V.ref t1, V.ref r2, V.ref t4]) l3 = some (HO.lst [V.ref t1, V.ref r2, V.ref t4]) := upd_same
      have sz : Same Hw (upd Hw l3 (HO.lst [V.ref t1, V.ref r2, V.ref t4])) := same_upd nl3
      have l3p := ((hPv.same sy).ne_new nl3).1
      try dsimp only [] at nl3 ⊢
      generalize upd Hw l3 (HO.lst [V.ref t1, V.ref r2, V.ref t4]) = Hx at el3 sz ⊢
      have syz := sy.trans sz
      have hPx := hPv.same syz
      refine ⟨p, lc, l3, _, _, rfl, hPx, by omega, el3, l3p, (by show 0 < 3; decide), (by show 3 < 1000000; decide), fun x Hy hx hPy ky => ?_⟩
      have Ty := tabs_kp hPx ky (Tv.ext syz)
      replace rA := (rA.same syz).kp hPx ky
      replace pA := (pA.same syz).kp hPx ky
      replace ts := (ts.same syz).kp hPx ky
      obtain ⟨rt, qt, rfl, tt, smt⟩ : ∃ rt qt, x = V.ref rt ∧ TR Hy rt qt ∧ SmD 3 qt := by
        simp only [List.mem_cons, List.not_mem_nil, or_false] at hx
        rcases hx with h | h | h
        · exact ⟨t1, 0, h, (et1.same syz).kp hPx ky, by show ((0 : Nat) : Int) ≤ 3 * 99; decide, by show 1 ≤ 99; decide⟩
        · exact ⟨r2, q2, h, (tv.same syz).kp hPx ky, sm2⟩
        · exact ⟨t4, qh, h, (et4.same sz).kp hPx ky, by show ((1 : Nat) : Int) ≤ 3 * 99; decide, by show 2 ≤ 99; decide⟩
      refine ⟨_, _, rfl, ?_⟩
      clear et1 et4 el3 sx sy sz syz hPs hPu hPv hPx ks kv ky es ev tv Ts1 Tu Tv hPf Tf nt1 nt4 nl3 l3p hx
      -- at
      have pA1 := pA
      obtain ⟨da, ta, za, ha1, ha2, ha3⟩ := pA1
      have s8s := smd_s80 sms (by decide)
      have s8t := smd_s80 smt (by decide)
      have ds0 := qs.den_pos
      have dt0 := qt.den_pos
      refine ⟨_, rfl, a, da, _, rfl, ha1, (by kernel_rfl), _, rfl, _, rfl, p, lc, rs, _, qs.num, (qs.den : Int), rfl, hPy, by omega, ts, by omega, s8s.1, s8s.2, fun v d k Hb hPb kb hd pd k0 k3 gd => ?_⟩
      have Tb := tabs_kp hPy kb Ty
      replace rA := rA.kp hPy kb
      replace pA := pA.kp hPy kb
      replace ts := ts.kp hPy kb
      replace tt := tt.kp hPy kb
      have hW : qs.den ≤ 2 ^ 9 ∧ qs.num.natAbs ≤ 2 ^ 9 := by
        have : (2 : Nat) ^ 9 = 512 := by decide
        have h1 := sms.1
        have h2 := sms.2
        omega
      have pw1 := pw_lt (N := 0) (e := A.length + 1) mAb (Nat.le_refl (2 ^ 9)) (by omega) (by decide)
      have pw2 := pw_lt (N := 0) (e := A.length + 1) nAb (Nat.le_refl (2 ^ 9)) (by omega) (by decide)
      have frh := fr_hors hW.1 hW.2 (Fr.self qs) A frA
      have srh : Sr (hor qs A) := by
        refine frh.sr (Nat.mul_pos mA0 (Nat.pow_pos ds0)) ?_ ?_
        · refine Nat.lt_of_le_of_lt (Nat.mul_le_mul_left _ (Nat.le_trans (Nat.pow_le_pow_left hW.1 _) (Nat.pow_le_pow_right (by decide) (Nat.le_succ _)))) (lt89 pw1.1)
        · refine Nat.lt_of_le_of_lt (Nat.mul_le_mul_left _ (Nat.mul_le_mul (Nat.le_succ _) (Nat.pow_le_pow_right (by decide) (Nat.le_succ _)))) (lt89 pw2.2)
      refine ⟨a, v, d, A, rfl, pA, lA, smA', hd.mono nw_sub, fun p' hp' => ?_, fun z => by rw [pd] at z; cases z⟩
      rw [pd] at hp'
      cases hp'
      refine ⟨qs, arg_of sms (by decide) k0 k3, fun r Hc sc1 tr => ?_⟩
      refine ⟨.ref r, pairD (pq (hor qs A)), rfl, .tup (SqT.of tr) (.cons (.int _) (.cons (.int _) .nil)), (gd_sr srh).small, ?_⟩
      refine ⟨_, rfl, _, rfl, l1, rs, A, qs, MA_, NA_, qs.den, qs.num.natAbs, 2 ^ 9, rfl, rA.same sc1, ts.same sc1, frA, Fr.self qs, mA0, ds0, hW.1, hW.2, lt89 pw1.1, lt89 pw2.2, Nat.lt_of_le_of_lt hW.2 (Nat.pow_lt_pow_right (by decide) (by decide)), fun r' Hd sd tr' => ?_⟩
      refine ⟨.ref r', pairD (pq (hor qs A)), rfl, .tup (SqT.of tr') (.cons (.int _) (.cons (.int _) .nil)), (gd_sr srh).small, ?_⟩
      refine rNe_no rfl ?_
      refine iteF ?_
      have sad := sc1.trans sd
      replace rA := rA.same sad
      replace pA := pA.same sad
      replace ts := ts.same sad
      replace tt := tt.same sad
      have hPd := hPb.same sad
      have Td := Tb.ext sad
      clear hPb Tb kb hd hPy Ty tr tr' sc1 sd sad frh srh ha1 ha2 ha3 gd pd
      -- moved
      have pA1 := pA
      obtain ⟨da, ta, za, ha1, ha2, ha3⟩ := pA1
      refine ⟨_, rfl, a, da, _, rfl, ha1, (by kernel_rfl), _, rfl, _, rfl, p, lc, rs, _, qs.num, (qs.den : Int), rfl, hPd, by omega, ts, by omega, s8s.1, s8s.2, fun v d k Hb hPb kb hd pd k0 k3 gd => ?_⟩
      have Tb := tabs_kp hPd kb Td
      replace rA := rA.kp hPd kb
      replace pA := pA.kp hPd kb
      replace ts := ts.kp hPd kb
      replace tt := tt.kp hPd kb
      refine ⟨_, rfl, _, rfl, p, lc, rt, _, qt.num, (qt.den : Int), rfl, hPb, by omega, tt, by omega, s8t.1, s8t.2, fun u e k' Hc hPc kc he pe k0' k3' gd' => ?_⟩
      have Tc := tabs_kp hPb kc Tb
      replace rA := rA.kp hPb kc
      replace pA := pA.kp hPb kc
      replace ts := ts.kp hPb kc
      replace tt := tt.kp hPb kc
      refine ⟨a, v, u, d, e, A, rfl, pA, lA, smA', hd.mono (nw_kp hPd kc), he.mono nw_sub, fun p1 hp1 => ?_, fun z => by rw [pd] at z; cases z⟩
      rw [pd] at hp1
      cases hp1
      refine ⟨(arg_of sms (by decide) k0 k3).2.1, fun p2 hp2 => ?_, fun z => by rw [pe] at z; cases z⟩
      rw [pe] at hp2
      cases hp2
      refine ⟨qs, qt, arg_of sms (by decide) k0 k3, arg_of smt (by decide) k0' k3', fun x Hm sm1 px => ?_⟩
      replace rA := rA.same sm1
      replace pA := pA.same sm1
      replace ts := ts.same sm1
      replace tt := tt.same sm1
      have hPm : Pen Hm p lc (2000 * i + 700) := (hPc.more (by omega)).same sm1
      have Tm := Tc.ext sm1
      have px1 := px
      obtain ⟨dz, tz, zs, hz1, hz2, hz3⟩ := px1
      refine ⟨_, rfl, x, CP, dz, _, .ref tz, rfl, hz1, PM.C.cl, PM.C.nf, (by kernel_rfl), ?_⟩
      have hBs : Fr (qs.den * qt.den) (2 ^ 15) qs := ((Fr.self qs).scale qt.den).le (by
        have h1 : qs.num.natAbs * qt.den ≤ 297 * 99 := Nat.mul_le_mul (by have := sms.1; omega) smt.2
        have : (2 : Nat) ^ 15 = 32768 := by decide
        omega)
      have hBt : Fr (qs.den * qt.den) (2 ^ 15) qt := by
        have h := (Fr.self qt).scale qs.den
        rw [Nat.mul_comm qt.den] at h
        refine h.le ?_
        have h1 : qt.num.natAbs * qs.den ≤ 297 * 99 := Nat.mul_le_mul (by have := smt.1; omega) sms.2
        have : (2 : Nat) ^ 15 = 32768 := by decide
        omega
      have hBW : qs.den * qt.den ≤ 2 ^ 16 := by
        have h1 : qs.den * qt.den ≤ 99 * 99 := Nat.mul_le_mul sms.2 smt.2
        have : (2 : Nat) ^ 16 = 65536 := by decide
        omega
      have pw3 := pw_lt (N := 0) (e := A.length + 1) mAb (Nat.le_refl (2 ^ 16)) (by omega) (by decide)
      have pw4 := pw_lt (N := 0) (e := A.length + 1) nAb (Nat.le_refl (2 ^ 16)) (by omega) (by decide)
      refine ⟨_, rfl, _, rfl, _, rfl, l1, rs, rt, A, qs, qt, MA_, NA_, qs.den * qt.den, 2 ^ 15, 2 ^ 16, rfl, rA, ts, tt, by omega, frA, hBs, hBt, mA0, nA0, Nat.mul_pos ds0 dt0, by decide, hBW, by decide, pw3.1, pw4.2, fun l Hn sn rl => ?_⟩
      obtain ⟨es, el, te⟩ := rl
      refine ⟨l, _, rfl, .inl ⟨SqL.of el, fun tg ntg => ?_⟩⟩
      have etg : upd Hn tg (HO.tup (es.map V.ref)) tg = some (HO.tup (es.map V.ref)) := upd_same
      have se : Same Hn (upd Hn tg (HO.tup (es.map V.ref))) := same_upd ntg
      generalize upd Hn tg (HO.tup (es.map V.ref)) = Ho at etg se ⊢
      have sno := sn.trans se
      refine ⟨_, _, .tup (SqT.of (sno _ _ hz2)) (hz3.same sno).dts, .tup (SqT.of etg) (te.same se).dts, (plain_row _).1, (plain_row _).1, (depth_row _).1, ?_⟩
      rw [eqv_row, decide_eq_true rfl]
      refine ⟨_, rfl, ?_⟩
      refine iteF ?_
      replace rA := rA.same sno
      replace pA := pA.same sno
      have hPo := hPm.same sno
      have To := Tm.ext sno
      clear sn se sno etg ntg te el hz1 hz2 hz3 px hPm Tm sm1 ts tt hPc Tc kc hPb Tb kb hd he gd gd' pd pe hPd Td ha1 ha2 ha3 hBs hBt hBW pw3 pw4 pw1 pw2
      -- a's own numbers
      have pA1 := pA
      obtain ⟨da, ta, za, ha1, ha2, ha3⟩ := pA1
      have rA1 := rA
      obtain ⟨es, el, te⟩ := rA1
      refine ⟨_, rfl, a, CP, da, _, .ref ta, rfl, ha1, PM.C.cl, PM.C.nf, (by kernel_rfl), ?_⟩
      refine ⟨_, rfl, l1, _, rfl, .inl ⟨SqL.of el, fun tg ntg => ?_⟩⟩
      have etg : upd Ho tg (HO.tup (es.map V.ref)) tg = some (HO.tup (es.map V.ref)) := upd_same
      have se : Same Ho (upd Ho tg (HO.tup (es.map V.ref))) := same_upd ntg
      generalize upd Ho tg (HO.tup (es.map V.ref)) = Hp1 at etg se ⊢
      refine ⟨_, _, .tup (SqT.of (se _ _ ha2)) (ha3.same se).dts, .tup (SqT.of etg) (te.same se).dts, (plain_row _).1, (plain_row _).1, (depth_row _).1, ?_⟩
      rw [eqv_row, decide_eq_true rfl]
      refine ⟨_, rfl, ?_⟩
      refine iteF ?_
      replace pA := pA.same se
      have hPp := hPo.same se
      have Tp := To.ext se
      clear se etg ntg te el ha1 ha2 ha3 rA hPo To
      -- odd, more
      refine ⟨_, rfl, p, lc, _, rfl, hPp, by omega, fun vo d1 Hq hPq kq hd1 no1 g1 _ => ?_⟩
      have Tq := tabs_kp hPp kq Tp
      replace pA := pA.kp hPp kq
      refine ⟨_, rfl, p, lc, _, rfl, hPq, by omega, fun vm d2 Hr hPr kr hd2 no2 g2 _ => ?_⟩
      have Tr := tabs_kp hPq kr Tq
      replace pA := pA.kp hPq kr
      have hd1 : Dt K Hr vo d1 := hd1.mono (nw_kp hPp kr)
      have hd2 : Dt K Hr vm d2 := hd2.mono nw_sub
      refine ⟨(by show 2 ≤ sizeLine; decide), fun t5 nt5 => ?_⟩
      have et5 : upd Hr t5 (HO.tup [vo, vm]) t5 = some (HO.tup [vo, vm]) := upd_same
      have s5 : Same Hr (upd Hr t5 (HO.tup [vo, vm])) := same_upd nt5
      try dsimp only [] at nt5 ⊢
      generalize upd Hr t5 (HO.tup [vo, vm]) = Ht at et5 s5 ⊢
      refine ⟨t5, _, rfl, SqT.of et5, rfl, _, _, rfl, _, _, rfl, rfl, ?_⟩
      have hd1 := hd1.mono s5
      have hd2 := hd2.mono s5
      replace pA := pA.same s5
      have hPt : Pen Ht p lc (2000 * i + 800) := (hPr.more (by omega)).same s5
      have Tt := Tr.ext s5
      clear et5 s5 nt5 hPr Tr kr hPq Tq kq hPp Tp
      refine why_num (i := 14) (v := vo) (d := d1) Tt rfl hd1 g1.small (fun H1 Q eN r => ?_) (fun Hx ex Tx => ?_)
      · have pA1 := PolyAt.n pA eN
        have pA2 := pA1
        obtain ⟨da, ta, za, ha1, ha2, ha3⟩ := pA2
        exact ⟨_, rfl, a, da, _, rfl, ha1, (by kernel_rfl), _, rfl, a, vo, d1, A, rfl, pA1, lA, smA', hd1.n eN, fun p' hp' => (by rw [no1] at hp'; cases hp'), fun _ => r⟩
      refine ⟨_, rfl, ?_⟩
      refine iteF ?_
      have hd1 := hd1.n ex
      have hd2 := hd2.n ex
      replace pA : PolyQ K CP Hx a A := PolyAt.n pA ex
      have hPx := hPt.n ex
      refine why_num (i := 14) (v := vo) (d := d1) Tx rfl hd1 g1.small (fun H1 Q eN r => ?_) (fun Hy ey Ty => ?_)
      · have pA1 := PolyAt.n pA eN
        have pA2 := pA1
        obtain ⟨da, ta, za, ha1, ha2, ha3⟩ := pA2
        exact ⟨_, rfl, a, da, _, rfl, ha1, (by kernel_rfl), _, rfl, _, rfl, a, vo, vm, d1, d2, A, rfl, pA1, lA, smA', hd1.n eN, hd2.n eN, fun p' hp' => (by rw [no1] at hp'; cases hp'), fun _ => r⟩
      refine ⟨_, rfl, ?_⟩
      refine iteF ?_
      have hd2 := hd2.n ey
      replace pA : PolyQ K CP Hy a A := PolyAt.n pA ey
      have hPy := hPx.n ey
      refine why_num (i := 15) (v := vm) (d := d2) Ty rfl hd2 g2.small (fun H1 Q eN r => ?_) (fun Hz ez Tz => ?_)
      · have pA1 := PolyAt.n pA eN
        have pA2 := pA1
        obtain ⟨da, ta, za, ha1, ha2, ha3⟩ := pA2
        exact ⟨_, rfl, a, da, _, rfl, ha1, (by kernel_rfl), _, rfl, a, .int 1, vm, .int 1, d2, A, rfl, pA1, lA, smA', .int 1, hd2.n eN, fun p' hp' => ⟨(by cases hp'; exact Nat.one_lt_pow (by decide) (by decide)), fun p2 hp2 => (by rw [no2] at hp2; cases hp2), fun _ => r⟩, fun z => (by cases z)⟩
      refine ⟨_, rfl, ?_⟩
      refine iteF ?_
      exact ⟨_, _, _, _, _, _, _, _, _, _, _, _, _, _, rfl, (hPy.n ez).more (by omega), Tz⟩
    · rintro σ H ⟨v2, v3, v4, v5, v6, v7, v8, v9, v10, v11, v12, v13, v14, v15, rfl, hP0, T0⟩
      exact kend H

end
end Vf

set_option maxRecDepth 100000
set_option maxHeartbeats 8000000
namespace Vf
open PySem PySem.Spec PyProof.Rows L2
/-! ### what the top has written -/
def fieldsOf : List (Nat × Str) := [(0, "column"), (1, "what"), (1, "number"), (2, "row"), (3, "what"), (3, "limit"), (4, "what")]
def lookB (K : PySem.W.Frag) (cs : List Addr) : Bool :=
  (List.range 7).all (fun k => xfB K (cs.getD k 0)) && ((List.range 7).all (fun k => (List.range 7).all fun j => decide (PySem.W.exmOne K (.ref (cs.getD k 0)) (.ref (cs.getD j 0)) = some (decide (k = j)))) &&
  (fieldsOf.all (fun p => decide (PySem.W.findIn K (.ref (cs.getD p.1 0)) p.2 = some none)) && (oexB K (cs.getD 1 0) && oexB K (cs.getD 2 0))))
structure Looked (K : PySem.W.Frag) (cs : List Addr) : Prop where
  xf : ∀ k, k < 7 → XfC K (cs.getD k 0)
  ex : ∀ k j, k < 7 → j < 7 → PySem.W.exmOne K (.ref (cs.getD k 0)) (.ref (cs.getD j 0)) = some (decide (k = j))
  no : ∀ p ∈ fieldsOf, PySem.W.findIn K (.ref (cs.getD p.1 0)) p.2 = some none
  ox : (oexB K (cs.getD 1 0) && oexB K (cs.getD 2 0)) = true
theorem looked {K : PySem.W.Frag} {cs : List Addr} (h : lookB K cs = true) : Looked K cs := by
  obtain ⟨h1, h⟩ := Bool.and_eq_true_iff.mp h
  obtain ⟨h2, h⟩ := Bool.and_eq_true_iff.mp h
  obtain ⟨h3, h4⟩ := Bool.and_eq_true_iff.mp h
  have r : ∀ k, k < 7 → k ∈ List.range 7 := fun k hk => List.mem_range.mpr hk
  exact ⟨fun k hk => xfB_ok (List.all_eq_true.mp h1 k (r k hk)), fun k j hk hj => of_decide_eq_true (List.all_eq_true.mp (List.all_eq_true.mp h2 k (r k hk)) j (r j hj)), fun p hp => of_decide_eq_true (List.all_eq_true.mp h3 p hp), h4⟩
def tyNames : List String := ["NoneType", "bool", "int", "str", "list", "tuple", "dict"]
def polyB (K : PySem.W.Frag) (CP : Addr) : Bool :=
  PySem.W.plainGet K CP Str.empty && (PySem.W.hasDictIn K CP && (PySem.W.plainOver K CP && (decide (PySem.W.findIn K (.ref CP) "__setattr__" = some (some (.builtin "object.__setattr__"))) && (decide (PySem.W.findIn K (.ref CP) "numbers" = some none) &&
  (decide (PySem.W.findIn K (.ref CP) "__class__" = some (some (.builtin "object.__class__"))) && (decide (PySem.W.specialIn K (.builtin "object.__class__") "__get__" = some (some (.builtin "getset_descriptor.__get__"))) &&
  (decide (PySem.W.takesIn K (.builtin "object.__class__") = some true) && (decide (PySem.W.mroIn K CP (.type "object") = some true) && (tyNames.all (fun t => decide (PySem.W.kitOne K (.type t) (.ref CP) = some false) && PySem.W.notFirst K CP (.type t)) &&
  (PySem.W.notFirst K CP (.ref CP) && (PySem.W.makesIn K CP && PySem.W.keepIn K (.ref CP))))))))))))
theorem tyD_mem (d : PyData) : tyD d ∈ tyNames := by
  cases d <;> simp [tyD, tyNames]
theorem polyC {K : PySem.W.Frag} {mg : Str → Option Value} {CP : Addr} (m : mg "Poly" = some (.ref CP)) (h : polyB K CP = true) : PoC K mg CP ∧ PySem.W.makesIn K CP = true ∧ PySem.W.keepIn K (.ref CP) = true := by
  obtain ⟨h1, h⟩ := Bool.and_eq_true_iff.mp h
  obtain ⟨h2, h⟩ := Bool.and_eq_true_iff.mp h
  obtain ⟨h3, h⟩ := Bool.and_eq_true_iff.mp h
  obtain ⟨h4, h⟩ := Bool.and_eq_true_iff.mp h
  obtain ⟨h5, h⟩ := Bool.and_eq_true_iff.mp h
  obtain ⟨h6, h⟩ := Bool.and_eq_true_iff.mp h
  obtain ⟨h7, h⟩ := Bool.and_eq_true_iff.mp h
  obtain ⟨h8, h⟩ := Bool.and_eq_true_iff.mp h
  obtain ⟨h9, h⟩ := Bool.and_eq_true_iff.mp h
  obtain ⟨h10, h⟩ := Bool.and_eq_true_iff.mp h
  obtain ⟨h11, h⟩ := Bool.and_eq_true_iff.mp h
  obtain ⟨h12, h13⟩ := Bool.and_eq_true_iff.mp h
  have z := fun d : PyData => Bool.and_eq_true_iff.mp (List.all_eq_true.mp h10 (tyD d) (tyD_mem d))
  exact ⟨⟨m, ⟨h1, h2, h3, of_decide_eq_true h4⟩, (of_decide_eq_true h5 : PySem.W.findIn K (.ref CP) "numbers" = some none), of_decide_eq_true h6, of_decide_eq_true h7, of_decide_eq_true h8, of_decide_eq_true h9, fun d => of_decide_eq_true (z d).1, h11, fun d => (z d).2⟩, h12, h13⟩
theorem fn_of_ty {K : PySem.W.Frag} {f : Addr} (h : PySem.W.typeIn K (.ref f) = some (.type "function")) : PySem.W.isFn K (.ref f) = true := by
  unfold PySem.W.isFn
  rw [h]
  decide +kernel
def posB (K : PySem.W.Frag) (CP : Addr) : Bool := PySem.W.selfFirst K CP && (decide (PySem.W.subIn K (.type "tuple") (.ref CP) = some false) && (decide (PySem.W.subIn K (.ref CP) (.type "tuple") = some false) && (decide (PySem.W.subIn K (.type "int") (.ref CP) = some false) && decide (PySem.W.subIn K (.ref CP) (.type "int") = some false))))
theorem posC {K : PySem.W.Frag} {CP : Addr} (h : posB K CP = true) : PoS K CP := by
  obtain ⟨h1, h⟩ := Bool.and_eq_true_iff.mp h
  obtain ⟨h2, h⟩ := Bool.and_eq_true_iff.mp h
  obtain ⟨h3, h⟩ := Bool.and_eq_true_iff.mp h
  obtain ⟨h4, h5⟩ := Bool.and_eq_true_iff.mp h
  exact ⟨h1, of_decide_eq_true h2, of_decide_eq_true h3, of_decide_eq_true h4, of_decide_eq_true h5⟩
theorem all_mk {l : PySem.W.OpenLaw} {w : World} {K : PySem.W.Frag} {h : Heap} {mg : Str → Option Value} {fa : Addr} {q : Program}
    {C0 C1 C2 C3 C4 C5 C6 i1 i2 f0 f1 f2 f3 f4 f5 f6 f7 f8 f9 f10 f11 f12 f13 f14 f15 f16 f17 f18 f19 f20 f21 f22 f23 f24 f25 f26 f27 f28 f29 f30 f31 f32 f33 f34 f35 f36 f37 f38 cL Pt CP g0 g1 g2 g3 g4 g5 g6 g7 g8 g9 g10 g11 : Addr}
    {eL : Value} {dL : Option Addr} {vL : Array Value} {sL : Array (Option Value)}
    {ocf0 kVf0 dcf0 pmf0 cdf0 ctf0 : Value} {odf0 anf0 : Option Addr} {slf0 : Array (Option Value)}
    {ocf1 kVf1 dcf1 pmf1 cdf1 ctf1 : Value} {odf1 anf1 : Option Addr} {slf1 : Array (Option Value)}
    {ocf2 kVf2 dcf2 pmf2 cdf2 ctf2 : Value} {odf2 anf2 : Option Addr} {slf2 : Array (Option Value)}
    {ocf3 kVf3 dcf3 pmf3 cdf3 ctf3 : Value} {odf3 anf3 : Option Addr} {slf3 : Array (Option Value)}
    {ocf4 kVf4 dcf4 pmf4 cdf4 ctf4 : Value} {odf4 anf4 : Option Addr} {slf4 : Array (Option Value)}
    {ocf5 kVf5 dcf5 pmf5 cdf5 ctf5 : Value} {odf5 anf5 : Option Addr} {slf5 : Array (Option Value)}
    {ocf6 kVf6 dcf6 pmf6 cdf6 ctf6 : Value} {odf6 anf6 : Option Addr} {slf6 : Array (Option Value)}
    {ocf7 kVf7 dcf7 pmf7 cdf7 ctf7 : Value} {odf7 anf7 : Option Addr} {slf7 : Array (Option Value)}
    {ocf8 kVf8 dcf8 pmf8 cdf8 ctf8 : Value} {odf8 anf8 : Option Addr} {slf8 : Array (Option Value)}
    {ocf9 kVf9 dcf9 pmf9 cdf9 ctf9 : Value} {odf9 anf9 : Option Addr} {slf9 : Array (Option Value)}
    {ocf10 kVf10 dcf10 pmf10 cdf10 ctf10 : Value} {odf10 anf10 : Option Addr} {slf10 : Array (Option Value)}
    {ocf11 kVf11 dcf11 pmf11 cdf11 ctf11 : Value} {odf11 anf11 : Option Addr} {slf11 : Array (Option Value)}
    {ocf12 kVf12 dcf12 pmf12 cdf12 ctf12 : Value} {odf12 anf12 : Option Addr} {slf12 : Array (Option Value)}
    {ocf13 kVf13 dcf13 pmf13 cdf13 ctf13 : Value} {odf13 anf13 : Option Addr} {slf13 : Array (Option Value)}
    {ocf14 kVf14 dcf14 pmf14 cdf14 ctf14 : Value} {odf14 anf14 : Option Addr} {slf14 : Array (Option Value)}
    {ocf15 kVf15 dcf15 pmf15 cdf15 ctf15 : Value} {odf15 anf15 : Option Addr} {slf15 : Array (Option Value)}
    {ocf16 kVf16 dcf16 pmf16 cdf16 ctf16 : Value} {odf16 anf16 : Option Addr} {slf16 : Array (Option Value)}
    {ocf17 kVf17 dcf17 pmf17 cdf17 ctf17 : Value} {odf17 anf17 : Option Addr} {slf17 : Array (Option Value)}
    {ocf18 kVf18 dcf18 pmf18 cdf18 ctf18 : Value} {odf18 anf18 : Option Addr} {slf18 : Array (Option Value)}
    {ocf19 kVf19 dcf19 pmf19 cdf19 ctf19 : Value} {odf19 anf19 : Option Addr} {slf19 : Array (Option Value)}
    {ocf20 kVf20 dcf20 pmf20 cdf20 ctf20 : Value} {odf20 anf20 : Option Addr} {slf20 : Array (Option Value)}
    {ocf21 kVf21 dcf21 pmf21 cdf21 ctf21 : Value} {odf21 anf21 : Option Addr} {slf21 : Array (Option Value)}
    {ocf22 kVf22 dcf22 pmf22 cdf22 ctf22 : Value} {odf22 anf22 : Option Addr} {slf22 : Array (Option Value)}
    {ocf23 kVf23 dcf23 pmf23 cdf23 ctf23 : Value} {odf23 anf23 : Option Addr} {slf23 : Array (Option Value)}
    {ocf24 kVf24 dcf24 pmf24 cdf24 ctf24 : Value} {odf24 anf24 : Option Addr} {slf24 : Array (Option Value)}
    {ocf25 kVf25 dcf25 pmf25 cdf25 ctf25 : Value} {odf25 anf25 : Option Addr} {slf25 : Array (Option Value)}
    {ocf26 kVf26 dcf26 pmf26 cdf26 ctf26 : Value} {odf26 anf26 : Option Addr} {slf26 : Array (Option Value)}
    {ocf27 kVf27 dcf27 pmf27 cdf27 ctf27 : Value} {odf27 anf27 : Option Addr} {slf27 : Array (Option Value)}
    {ocf28 kVf28 dcf28 pmf28 cdf28 ctf28 : Value} {odf28 anf28 : Option Addr} {slf28 : Array (Option Value)}
    {ocf29 kVf29 dcf29 pmf29 cdf29 ctf29 : Value} {odf29 anf29 : Option Addr} {slf29 : Array (Option Value)}
    {ocf30 kVf30 dcf30 pmf30 cdf30 ctf30 : Value} {odf30 anf30 : Option Addr} {slf30 : Array (Option Value)}
    {ocf31 kVf31 dcf31 pmf31 cdf31 ctf31 : Value} {odf31 anf31 : Option Addr} {slf31 : Array (Option Value)}
    {ocf32 kVf32 dcf32 pmf32 cdf32 ctf32 : Value} {odf32 anf32 : Option Addr} {slf32 : Array (Option Value)}
    {ocf33 kVf33 dcf33 pmf33 cdf33 ctf33 : Value} {odf33 anf33 : Option Addr} {slf33 : Array (Option Value)}
    {ocf34 kVf34 dcf34 pmf34 cdf34 ctf34 : Value} {odf34 anf34 : Option Addr} {slf34 : Array (Option Value)}
    {ocf35 kVf35 dcf35 pmf35 cdf35 ctf35 : Value} {odf35 anf35 : Option Addr} {slf35 : Array (Option Value)}
    {ocf36 kVf36 dcf36 pmf36 cdf36 ctf36 : Value} {odf36 anf36 : Option Addr} {slf36 : Array (Option Value)}
    {ocf37 kVf37 dcf37 pmf37 cdf37 ctf37 : Value} {odf37 anf37 : Option Addr} {slf37 : Array (Option Value)}
    {ocf38 kVf38 dcf38 pmf38 ctf38 : Value} {odf38 anf38 : Option Addr} {slf38 : Array (Option Value)}
    {oci1 kVi1 dci1 pmi1 cdi1 cti1 : Value} {odi1 ani1 : Option Addr} {sli1 : Array (Option Value)}
    {nm1 qn1 : Str} {N1 : Addr} {bs1 bm1 sub1 : List Value} {sn1 : List Str} {ab1 : Bool} {col1 : Option Bool} {dd1 : Option Addr} {ka1 kb1 kc1 kd1 ke1 : Option Value}
    {oci2 kVi2 dci2 pmi2 cdi2 cti2 : Value} {odi2 ani2 : Option Addr} {sli2 : Array (Option Value)}
    {nm2 qn2 : Str} {N2 : Addr} {bs2 bm2 sub2 : List Value} {sn2 : List Str} {ab2 : Bool} {col2 : Option Bool} {dd2 : Option Addr} {ka2 kb2 kc2 kd2 ke2 : Option Value}
    {ocg0 kVg0 dcg0 pmg0 cdg0 ctg0 : Value} {odg0 ang0 : Option Addr} {slg0 : Array (Option Value)}
    {ocg1 kVg1 dcg1 pmg1 cdg1 ctg1 : Value} {odg1 ang1 : Option Addr} {slg1 : Array (Option Value)}
    {ocg2 kVg2 dcg2 pmg2 cdg2 ctg2 : Value} {odg2 ang2 : Option Addr} {slg2 : Array (Option Value)}
    {ocg3 kVg3 dcg3 pmg3 cdg3 ctg3 : Value} {odg3 ang3 : Option Addr} {slg3 : Array (Option Value)}
    {ocg4 kVg4 dcg4 pmg4 cdg4 ctg4 : Value} {odg4 ang4 : Option Addr} {slg4 : Array (Option Value)}
    {ocg5 kVg5 dcg5 pmg5 cdg5 ctg5 : Value} {odg5 ang5 : Option Addr} {slg5 : Array (Option Value)}
    {ocg6 kVg6 dcg6 pmg6 cdg6 ctg6 : Value} {odg6 ang6 : Option Addr} {slg6 : Array (Option Value)}
    {ocg7 kVg7 dcg7 pmg7 cdg7 ctg7 : Value} {odg7 ang7 : Option Addr} {slg7 : Array (Option Value)}
    {ocg8 kVg8 dcg8 pmg8 cdg8 ctg8 : Value} {odg8 ang8 : Option Addr} {slg8 : Array (Option Value)}
    {ocg9 kVg9 dcg9 pmg9 cdg9 ctg9 : Value} {odg9 ang9 : Option Addr} {slg9 : Array (Option Value)}
    {ocg10 kVg10 dcg10 pmg10 cdg10 ctg10 : Value} {odg10 ang10 : Option Addr} {slg10 : Array (Option Value)}
    {ocg11 kVg11 dcg11 pmg11 cdg11 ctg11 : Value} {odg11 ang11 : Option Addr} {slg11 : Array (Option Value)}
    (X : K.In h) (G : h.Ns mainGlobals mg) (hfa : mg "law" = some (.ref fa)) (TB : TabsG q K mg h)
    (a0 : PySem.W.nsIn K mainGlobals "_law_pen" = some (some (.ref f0)))
    (l0 : K.lookup f0 = some ⟨ocf0, odf0, .func (PySem.W.fnOf "_law_pen" "_law_pen" (defArgs sPen) (defBody sPen) (defScope sPen) .none kVf0 dcf0 pmf0 anf0 cdf0 ctf0), slf0⟩)
    (c0 : PySem.W.codeIn K cdf0 "_law_pen" = true)
    (k0 : PySem.W.keepIn K (.ref f0) = true)
    (a1 : PySem.W.nsIn K mainGlobals "_law_draw" = some (some (.ref f1)))
    (l1 : K.lookup f1 = some ⟨ocf1, odf1, .func (PySem.W.fnOf "_law_draw" "_law_draw" (defArgs sDraw) (defBody sDraw) (defScope sDraw) .none kVf1 dcf1 pmf1 anf1 cdf1 ctf1), slf1⟩)
    (c1 : PySem.W.codeIn K cdf1 "_law_draw" = true)
    (k1 : PySem.W.keepIn K (.ref f1) = true)
    (a2 : PySem.W.nsIn K mainGlobals "_law_pick" = some (some (.ref f2)))
    (l2 : K.lookup f2 = some ⟨ocf2, odf2, .func (PySem.W.fnOf "_law_pick" "_law_pick" (defArgs sPick) (defBody sPick) (defScope sPick) .none kVf2 dcf2 pmf2 anf2 cdf2 ctf2), slf2⟩)
    (c2 : PySem.W.codeIn K cdf2 "_law_pick" = true)
    (k2 : PySem.W.keepIn K (.ref f2) = true)
    (a3 : PySem.W.nsIn K mainGlobals "is_whole" = some (some (.ref f3)))
    (l3 : K.lookup f3 = some ⟨ocf3, odf3, .func (PySem.W.fnOf "is_whole" "is_whole" (defArgs sIsWhole) (defBody sIsWhole) (defScope sIsWhole) .none kVf3 dcf3 pmf3 anf3 cdf3 ctf3), slf3⟩)
    (c3 : PySem.W.codeIn K cdf3 "is_whole" = true)
    (k3 : PySem.W.keepIn K (.ref f3) = true)
    (a4 : PySem.W.nsIn K mainGlobals "is_ratio" = some (some (.ref f4)))
    (l4 : K.lookup f4 = some ⟨ocf4, odf4, .func (PySem.W.fnOf "is_ratio" "is_ratio" (defArgs sIsRatio) (defBody sIsRatio) (defScope sIsRatio) .none kVf4 dcf4 pmf4 anf4 cdf4 ctf4), slf4⟩)
    (c4 : PySem.W.codeIn K cdf4 "is_ratio" = true)
    (k4 : PySem.W.keepIn K (.ref f4) = true)
    (a5 : PySem.W.nsIn K mainGlobals "is_ratio_row" = some (some (.ref f5)))
    (l5 : K.lookup f5 = some ⟨ocf5, odf5, .func (PySem.W.fnOf "is_ratio_row" "is_ratio_row" (defArgs sIsRow) (defBody sIsRow) (defScope sIsRow) .none kVf5 dcf5 pmf5 anf5 cdf5 ctf5), slf5⟩)
    (c5 : PySem.W.codeIn K cdf5 "is_ratio_row" = true)
    (k5 : PySem.W.keepIn K (.ref f5) = true)
    (a6 : PySem.W.nsIn K mainGlobals "lowest" = some (some (.ref f6)))
    (l6 : K.lookup f6 = some ⟨ocf6, odf6, .func (PySem.W.fnOf "lowest" "lowest" (defArgs sLowest) (defBody sLowest) (defScope sLowest) .none kVf6 dcf6 pmf6 anf6 cdf6 ctf6), slf6⟩)
    (c6 : PySem.W.codeIn K cdf6 "lowest" = true)
    (k6 : PySem.W.keepIn K (.ref f6) = true)
    (a7 : PySem.W.nsIn K mainGlobals "parts_of" = some (some (.ref f7)))
    (l7 : K.lookup f7 = some ⟨ocf7, odf7, .func (PySem.W.fnOf "parts_of" "parts_of" (defArgs sParts) (defBody sParts) (defScope sParts) .none kVf7 dcf7 pmf7 anf7 cdf7 ctf7), slf7⟩)
    (c7 : PySem.W.codeIn K cdf7 "parts_of" = true)
    (k7 : PySem.W.keepIn K (.ref f7) = true)
    (a8 : PySem.W.nsIn K mainGlobals "told" = some (some (.ref f8)))
    (l8 : K.lookup f8 = some ⟨ocf8, odf8, .func (PySem.W.fnOf "told" "told" (defArgs sTold) (defBody sTold) (defScope sTold) .none kVf8 dcf8 pmf8 anf8 cdf8 ctf8), slf8⟩)
    (c8 : PySem.W.codeIn K cdf8 "told" = true)
    (k8 : PySem.W.keepIn K (.ref f8) = true)
    (a9 : PySem.W.nsIn K mainGlobals "plus" = some (some (.ref f9)))
    (l9 : K.lookup f9 = some ⟨ocf9, odf9, .func (PySem.W.fnOf "plus" "plus" (defArgs sPlus) (defBody sPlus) (defScope sPlus) .none kVf9 dcf9 pmf9 anf9 cdf9 ctf9), slf9⟩)
    (c9 : PySem.W.codeIn K cdf9 "plus" = true)
    (k9 : PySem.W.keepIn K (.ref f9) = true)
    (a10 : PySem.W.nsIn K mainGlobals "times" = some (some (.ref f10)))
    (l10 : K.lookup f10 = some ⟨ocf10, odf10, .func (PySem.W.fnOf "times" "times" (defArgs sTimes) (defBody sTimes) (defScope sTimes) .none kVf10 dcf10 pmf10 anf10 cdf10 ctf10), slf10⟩)
    (c10 : PySem.W.codeIn K cdf10 "times" = true)
    (k10 : PySem.W.keepIn K (.ref f10) = true)
    (a11 : PySem.W.nsIn K mainGlobals "product_number" = some (some (.ref f11)))
    (l11 : K.lookup f11 = some ⟨ocf11, odf11, .func (PySem.W.fnOf "product_number" "product_number" (defArgs sPN) (defBody sPN) (defScope sPN) .none kVf11 dcf11 pmf11 anf11 cdf11 ctf11), slf11⟩)
    (c11 : PySem.W.codeIn K cdf11 "product_number" = true)
    (k11 : PySem.W.keepIn K (.ref f11) = true)
    (a12 : PySem.W.nsIn K mainGlobals "product_row" = some (some (.ref f12)))
    (l12 : K.lookup f12 = some ⟨ocf12, odf12, .func (PySem.W.fnOf "product_row" "product_row" (defArgs sPRow) (defBody sPRow) (defScope sPRow) .none kVf12 dcf12 pmf12 anf12 cdf12 ctf12), slf12⟩)
    (c12 : PySem.W.codeIn K cdf12 "product_row" = true)
    (k12 : PySem.W.keepIn K (.ref f12) = true)
    (a13 : PySem.W.nsIn K mainGlobals "as_poly" = some (some (.ref f13)))
    (l13 : K.lookup f13 = some ⟨ocf13, odf13, .func (PySem.W.fnOf "as_poly" "as_poly" (defArgs sAsP) (defBody sAsP) (defScope sAsP) .none kVf13 dcf13 pmf13 anf13 cdf13 ctf13), slf13⟩)
    (c13 : PySem.W.codeIn K cdf13 "as_poly" = true)
    (k13 : PySem.W.keepIn K (.ref f13) = true)
    (a14 : PySem.W.nsIn K mainGlobals "number_of" = some (some (.ref f14)))
    (l14 : K.lookup f14 = some ⟨ocf14, odf14, .func (PySem.W.fnOf "number_of" "number_of" (defArgs sNumOf) (defBody sNumOf) (defScope sNumOf) .none kVf14 dcf14 pmf14 anf14 cdf14 ctf14), slf14⟩)
    (c14 : PySem.W.codeIn K cdf14 "number_of" = true)
    (k14 : PySem.W.keepIn K (.ref f14) = true)
    (a15 : PySem.W.nsIn K mainGlobals "sums_of" = some (some (.ref f15)))
    (l15 : K.lookup f15 = some ⟨ocf15, odf15, .func (PySem.W.fnOf "sums_of" "sums_of" (defArgs sSums) (defBody sSums) (defScope sSums) .none kVf15 dcf15 pmf15 anf15 cdf15 ctf15), slf15⟩)
    (c15 : PySem.W.codeIn K cdf15 "sums_of" = true)
    (k15 : PySem.W.keepIn K (.ref f15) = true)
    (a16 : PySem.W.nsIn K mainGlobals "opposites_of" = some (some (.ref f16)))
    (l16 : K.lookup f16 = some ⟨ocf16, odf16, .func (PySem.W.fnOf "opposites_of" "opposites_of" (defArgs sOpp) (defBody sOpp) (defScope sOpp) .none kVf16 dcf16 pmf16 anf16 cdf16 ctf16), slf16⟩)
    (c16 : PySem.W.codeIn K cdf16 "opposites_of" = true)
    (k16 : PySem.W.keepIn K (.ref f16) = true)
    (a17 : PySem.W.nsIn K mainGlobals "products_of" = some (some (.ref f17)))
    (l17 : K.lookup f17 = some ⟨ocf17, odf17, .func (PySem.W.fnOf "products_of" "products_of" (defArgs sProds) (defBody sProds) (defScope sProds) .none kVf17 dcf17 pmf17 anf17 cdf17 ctf17), slf17⟩)
    (c17 : PySem.W.codeIn K cdf17 "products_of" = true)
    (k17 : PySem.W.keepIn K (.ref f17) = true)
    (a18 : PySem.W.nsIn K mainGlobals "over_one_bottom" = some (some (.ref f18)))
    (l18 : K.lookup f18 = some ⟨ocf18, odf18, .func (PySem.W.fnOf "over_one_bottom" "over_one_bottom" (defArgs sOver) (defBody sOver) (defScope sOver) .none kVf18 dcf18 pmf18 anf18 cdf18 ctf18), slf18⟩)
    (c18 : PySem.W.codeIn K cdf18 "over_one_bottom" = true)
    (k18 : PySem.W.keepIn K (.ref f18) = true)
    (a19 : PySem.W.nsIn K mainGlobals "poly_over" = some (some (.ref f19)))
    (l19 : K.lookup f19 = some ⟨ocf19, odf19, .func (PySem.W.fnOf "poly_over" "poly_over" (defArgs sPOv) (defBody sPOv) (defScope sPOv) .none kVf19 dcf19 pmf19 anf19 cdf19 ctf19), slf19⟩)
    (c19 : PySem.W.codeIn K cdf19 "poly_over" = true)
    (k19 : PySem.W.keepIn K (.ref f19) = true)
    (a20 : PySem.W.nsIn K mainGlobals "_law_gcd" = some (some (.ref f20)))
    (l20 : K.lookup f20 = some ⟨ocf20, odf20, .func (PySem.W.fnOf "_law_gcd" "_law_gcd" (defArgs sLGcd) (defBody sLGcd) (defScope sLGcd) .none kVf20 dcf20 pmf20 anf20 cdf20 ctf20), slf20⟩)
    (c20 : PySem.W.codeIn K cdf20 "_law_gcd" = true)
    (k20 : PySem.W.keepIn K (.ref f20) = true)
    (a21 : PySem.W.nsIn K mainGlobals "_law_q" = some (some (.ref f21)))
    (l21 : K.lookup f21 = some ⟨ocf21, odf21, .func (PySem.W.fnOf "_law_q" "_law_q" (defArgs sLQ) (defBody sLQ) (defScope sLQ) .none kVf21 dcf21 pmf21 anf21 cdf21 ctf21), slf21⟩)
    (c21 : PySem.W.codeIn K cdf21 "_law_q" = true)
    (k21 : PySem.W.keepIn K (.ref f21) = true)
    (a22 : PySem.W.nsIn K mainGlobals "_law_plus" = some (some (.ref f22)))
    (l22 : K.lookup f22 = some ⟨ocf22, odf22, .func (PySem.W.fnOf "_law_plus" "_law_plus" (defArgs sLPlus) (defBody sLPlus) (defScope sLPlus) .none kVf22 dcf22 pmf22 anf22 cdf22 ctf22), slf22⟩)
    (c22 : PySem.W.codeIn K cdf22 "_law_plus" = true)
    (k22 : PySem.W.keepIn K (.ref f22) = true)
    (a23 : PySem.W.nsIn K mainGlobals "_law_times" = some (some (.ref f23)))
    (l23 : K.lookup f23 = some ⟨ocf23, odf23, .func (PySem.W.fnOf "_law_times" "_law_times" (defArgs sLTimes) (defBody sLTimes) (defScope sLTimes) .none kVf23 dcf23 pmf23 anf23 cdf23 ctf23), slf23⟩)
    (c23 : PySem.W.codeIn K cdf23 "_law_times" = true)
    (k23 : PySem.W.keepIn K (.ref f23) = true)
    (a24 : PySem.W.nsIn K mainGlobals "_law_ratio" = some (some (.ref f24)))
    (l24 : K.lookup f24 = some ⟨ocf24, odf24, .func (PySem.W.fnOf "_law_ratio" "_law_ratio" (defArgs sLRatio) (defBody sLRatio) (defScope sLRatio) .none kVf24 dcf24 pmf24 anf24 cdf24 ctf24), slf24⟩)
    (c24 : PySem.W.codeIn K cdf24 "_law_ratio" = true)
    (k24 : PySem.W.keepIn K (.ref f24) = true)
    (a25 : PySem.W.nsIn K mainGlobals "_law_poly" = some (some (.ref f25)))
    (l25 : K.lookup f25 = some ⟨ocf25, odf25, .func (PySem.W.fnOf "_law_poly" "_law_poly" (defArgs sLPoly) (defBody sLPoly) (defScope sLPoly) .none kVf25 dcf25 pmf25 anf25 cdf25 ctf25), slf25⟩)
    (c25 : PySem.W.codeIn K cdf25 "_law_poly" = true)
    (k25 : PySem.W.keepIn K (.ref f25) = true)
    (a26 : PySem.W.nsIn K mainGlobals "_law_p_plus" = some (some (.ref f26)))
    (l26 : K.lookup f26 = some ⟨ocf26, odf26, .func (PySem.W.fnOf "_law_p_plus" "_law_p_plus" (defArgs sLPPlus) (defBody sLPPlus) (defScope sLPPlus) .none kVf26 dcf26 pmf26 anf26 cdf26 ctf26), slf26⟩)
    (c26 : PySem.W.codeIn K cdf26 "_law_p_plus" = true)
    (k26 : PySem.W.keepIn K (.ref f26) = true)
    (a27 : PySem.W.nsIn K mainGlobals "_law_p_scaled" = some (some (.ref f27)))
    (l27 : K.lookup f27 = some ⟨ocf27, odf27, .func (PySem.W.fnOf "_law_p_scaled" "_law_p_scaled" (defArgs sLPScaled) (defBody sLPScaled) (defScope sLPScaled) .none kVf27 dcf27 pmf27 anf27 cdf27 ctf27), slf27⟩)
    (c27 : PySem.W.codeIn K cdf27 "_law_p_scaled" = true)
    (k27 : PySem.W.keepIn K (.ref f27) = true)
    (a28 : PySem.W.nsIn K mainGlobals "_law_p_minus" = some (some (.ref f28)))
    (l28 : K.lookup f28 = some ⟨ocf28, odf28, .func (PySem.W.fnOf "_law_p_minus" "_law_p_minus" (defArgs sLPMinus) (defBody sLPMinus) (defScope sLPMinus) .none kVf28 dcf28 pmf28 anf28 cdf28 ctf28), slf28⟩)
    (c28 : PySem.W.codeIn K cdf28 "_law_p_minus" = true)
    (k28 : PySem.W.keepIn K (.ref f28) = true)
    (a29 : PySem.W.nsIn K mainGlobals "_law_p_times" = some (some (.ref f29)))
    (l29 : K.lookup f29 = some ⟨ocf29, odf29, .func (PySem.W.fnOf "_law_p_times" "_law_p_times" (defArgs sLPTimes) (defBody sLPTimes) (defScope sLPTimes) .none kVf29 dcf29 pmf29 anf29 cdf29 ctf29), slf29⟩)
    (c29 : PySem.W.codeIn K cdf29 "_law_p_times" = true)
    (k29 : PySem.W.keepIn K (.ref f29) = true)
    (a30 : PySem.W.nsIn K mainGlobals "_law_p_at" = some (some (.ref f30)))
    (l30 : K.lookup f30 = some ⟨ocf30, odf30, .func (PySem.W.fnOf "_law_p_at" "_law_p_at" (defArgs sLPAt) (defBody sLPAt) (defScope sLPAt) .none kVf30 dcf30 pmf30 anf30 cdf30 ctf30), slf30⟩)
    (c30 : PySem.W.codeIn K cdf30 "_law_p_at" = true)
    (k30 : PySem.W.keepIn K (.ref f30) = true)
    (a31 : PySem.W.nsIn K mainGlobals "_law_p_slope" = some (some (.ref f31)))
    (l31 : K.lookup f31 = some ⟨ocf31, odf31, .func (PySem.W.fnOf "_law_p_slope" "_law_p_slope" (defArgs sLPSlope) (defBody sLPSlope) (defScope sLPSlope) .none kVf31 dcf31 pmf31 anf31 cdf31 ctf31), slf31⟩)
    (c31 : PySem.W.codeIn K cdf31 "_law_p_slope" = true)
    (k31 : PySem.W.keepIn K (.ref f31) = true)
    (a32 : PySem.W.nsIn K mainGlobals "_law_p_moved" = some (some (.ref f32)))
    (l32 : K.lookup f32 = some ⟨ocf32, odf32, .func (PySem.W.fnOf "_law_p_moved" "_law_p_moved" (defArgs sLPMoved) (defBody sLPMoved) (defScope sLPMoved) .none kVf32 dcf32 pmf32 anf32 cdf32 ctf32), slf32⟩)
    (c32 : PySem.W.codeIn K cdf32 "_law_p_moved" = true)
    (k32 : PySem.W.keepIn K (.ref f32) = true)
    (a33 : PySem.W.nsIn K mainGlobals "_law_passed" = some (some (.ref f33)))
    (l33 : K.lookup f33 = some ⟨ocf33, odf33, .func (PySem.W.fnOf "_law_passed" "_law_passed" (defArgs sPassed) (defBody sPassed) (defScope sPassed) .none kVf33 dcf33 pmf33 anf33 cdf33 ctf33), slf33⟩)
    (c33 : PySem.W.codeIn K cdf33 "_law_passed" = true)
    (k33 : PySem.W.keepIn K (.ref f33) = true)
    (a34 : PySem.W.nsIn K mainGlobals "_law_made_poly" = some (some (.ref f34)))
    (l34 : K.lookup f34 = some ⟨ocf34, odf34, .func (PySem.W.fnOf "_law_made_poly" "_law_made_poly" (defArgs sMade) (defBody sMade) (defScope sMade) .none kVf34 dcf34 pmf34 anf34 cdf34 ctf34), slf34⟩)
    (c34 : PySem.W.codeIn K cdf34 "_law_made_poly" = true)
    (k34 : PySem.W.keepIn K (.ref f34) = true)
    (a35 : PySem.W.nsIn K mainGlobals "_law_drawn" = some (some (.ref f35)))
    (l35 : K.lookup f35 = some ⟨ocf35, odf35, .func (PySem.W.fnOf "_law_drawn" "_law_drawn" (defArgs sDrawn) (defBody sDrawn) (defScope sDrawn) .none kVf35 dcf35 pmf35 anf35 cdf35 ctf35), slf35⟩)
    (c35 : PySem.W.codeIn K cdf35 "_law_drawn" = true)
    (k35 : PySem.W.keepIn K (.ref f35) = true)
    (a36 : PySem.W.nsIn K mainGlobals "_law_why" = some (some (.ref f36)))
    (l36 : K.lookup f36 = some ⟨ocf36, odf36, .func (PySem.W.fnOf "_law_why" "_law_why" (defArgs sWhy) (defBody sWhy) (defScope sWhy) .none kVf36 dcf36 pmf36 anf36 cdf36 ctf36), slf36⟩)
    (c36 : PySem.W.codeIn K cdf36 "_law_why" = true)
    (k36 : PySem.W.keepIn K (.ref f36) = true)
    (a37 : PySem.W.nsIn K mainGlobals "_law_any" = some (some (.ref f37)))
    (l37 : K.lookup f37 = some ⟨ocf37, odf37, .func (PySem.W.fnOf "_law_any" "_law_any" (defArgs sAny) (defBody sAny) (defScope sAny) .none kVf37 dcf37 pmf37 anf37 cdf37 ctf37), slf37⟩)
    (c37 : PySem.W.codeIn K cdf37 "_law_any" = true)
    (k37 : PySem.W.keepIn K (.ref f37) = true)
    (a38 : PySem.W.nsIn K mainGlobals "law" = some (some (.ref f38)))
    (l38 : K.lookup f38 = some ⟨ocf38, odf38, .func (PySem.W.fnOf "law" "law" (defArgs sLaw) (defBody sLaw) (defScope sLaw) .none kVf38 dcf38 pmf38 anf38 (.ref cL) ctf38), slf38⟩)
    (c38 : PySem.W.codeIn K (.ref cL) "law" = true)
    (k38 : PySem.W.keepIn K (.ref f38) = true)
    (tl : K.lookup cL = some ⟨eL, dL, .fields vL, sL⟩)
    (tv : vL[11]? = some (.ref Pt))
    (tn : K.lookup Pt = none)
    (tr : ((recsOf q).any fun e => e.name == Str.ofString "law") = true)
    (aggcd : PySem.W.nsIn K mainGlobals "gcd" = some (some (.builtin "math.gcd")))
    (aglcm : PySem.W.nsIn K mainGlobals "lcm" = some (some (.builtin "math.lcm")))
    (m0 : PySem.W.nsIn K mainGlobals "BadText" = some (some (.ref C0)))
    (m1 : PySem.W.nsIn K mainGlobals "BadNumber" = some (some (.ref C1)))
    (m2 : PySem.W.nsIn K mainGlobals "BadRow" = some (some (.ref C2)))
    (m3 : PySem.W.nsIn K mainGlobals "TooMany" = some (some (.ref C3)))
    (m4 : PySem.W.nsIn K mainGlobals "Unlike" = some (some (.ref C4)))
    (m5 : PySem.W.nsIn K mainGlobals "TooWide" = some (some (.ref C5)))
    (m6 : PySem.W.nsIn K mainGlobals "Pole" = some (some (.ref C6)))
    (ei1 : PySem.W.findIn K (.ref C1) "__init__" = some (some (.ref i1)))
    (ti1 : PySem.W.typeIn K (.ref i1) = some (.type "function"))
    (li1 : K.lookup i1 = some ⟨oci1, odi1, .func (PySem.W.fnOf "__init__" "BadNumber.__init__" (defArgs (inClass (topS 8) 0)) (defBody (inClass (topS 8) 0)) (defScope (inClass (topS 8) 0)) .none kVi1 dci1 pmi1 ani1 cdi1 cti1), sli1⟩)
    (ci1 : PySem.W.codeIn K cdi1 "BadNumber.__init__" = true)
    (ki1 : PySem.W.keepIn K (.ref i1) = true)
    (lc1 : K.lookup C1 = some (excClassObj nm1 qn1 C1 N1 bs1 bm1 true sn1 sub1 ab1 col1 dd1 ka1 kb1 kc1 kd1 ke1 "ValueError.__new__"))
    (lb1 : PySem.HandSPX.refsVE bm1 = true)
    (ei2 : PySem.W.findIn K (.ref C2) "__init__" = some (some (.ref i2)))
    (ti2 : PySem.W.typeIn K (.ref i2) = some (.type "function"))
    (li2 : K.lookup i2 = some ⟨oci2, odi2, .func (PySem.W.fnOf "__init__" "BadRow.__init__" (defArgs (inClass (topS 9) 0)) (defBody (inClass (topS 9) 0)) (defScope (inClass (topS 9) 0)) .none kVi2 dci2 pmi2 ani2 cdi2 cti2), sli2⟩)
    (ci2 : PySem.W.codeIn K cdi2 "BadRow.__init__" = true)
    (ki2 : PySem.W.keepIn K (.ref i2) = true)
    (lc2 : K.lookup C2 = some (excClassObj nm2 qn2 C2 N2 bs2 bm2 true sn2 sub2 ab2 col2 dd2 ka2 kb2 kc2 kd2 ke2 "ValueError.__new__"))
    (lb2 : PySem.HandSPX.refsVE bm2 = true)
    (mP : PySem.W.nsIn K mainGlobals "Poly" = some (some (.ref CP)))
    (eg0 : PySem.W.findIn K (.ref CP) "__init__" = some (some (.ref g0)))
    (tg0 : PySem.W.typeIn K (.ref g0) = some (.type "function"))
    (lg0 : K.lookup g0 = some ⟨ocg0, odg0, .func (PySem.W.fnOf "__init__" "Poly.__init__" (defArgs (inClass (topS 24) 0)) (defBody (inClass (topS 24) 0)) (defScope (inClass (topS 24) 0)) .none kVg0 dcg0 pmg0 ang0 cdg0 ctg0), slg0⟩)
    (cg0 : PySem.W.codeIn K cdg0 "Poly.__init__" = true)
    (kg0 : PySem.W.keepIn K (.ref g0) = true)
    (eg1 : PySem.W.findIn K (.ref CP) "__eq__" = some (some (.ref g1)))
    (tg1 : PySem.W.typeIn K (.ref g1) = some (.type "function"))
    (lg1 : K.lookup g1 = some ⟨ocg1, odg1, .func (PySem.W.fnOf "__eq__" "Poly.__eq__" (defArgs (inClass (topS 24) 1)) (defBody (inClass (topS 24) 1)) (defScope (inClass (topS 24) 1)) .none kVg1 dcg1 pmg1 ang1 cdg1 ctg1), slg1⟩)
    (cg1 : PySem.W.codeIn K cdg1 "Poly.__eq__" = true)
    (kg1 : PySem.W.keepIn K (.ref g1) = true)
    (eg2 : PySem.W.findIn K (.ref CP) "__add__" = some (some (.ref g2)))
    (tg2 : PySem.W.typeIn K (.ref g2) = some (.type "function"))
    (lg2 : K.lookup g2 = some ⟨ocg2, odg2, .func (PySem.W.fnOf "__add__" "Poly.__add__" (defArgs (inClass (topS 24) 2)) (defBody (inClass (topS 24) 2)) (defScope (inClass (topS 24) 2)) .none kVg2 dcg2 pmg2 ang2 cdg2 ctg2), slg2⟩)
    (cg2 : PySem.W.codeIn K cdg2 "Poly.__add__" = true)
    (kg2 : PySem.W.keepIn K (.ref g2) = true)
    (eg3 : PySem.W.findIn K (.ref CP) "__radd__" = some (some (.ref g3)))
    (tg3 : PySem.W.typeIn K (.ref g3) = some (.type "function"))
    (lg3 : K.lookup g3 = some ⟨ocg3, odg3, .func (PySem.W.fnOf "__radd__" "Poly.__radd__" (defArgs (inClass (topS 24) 3)) (defBody (inClass (topS 24) 3)) (defScope (inClass (topS 24) 3)) .none kVg3 dcg3 pmg3 ang3 cdg3 ctg3), slg3⟩)
    (cg3 : PySem.W.codeIn K cdg3 "Poly.__radd__" = true)
    (kg3 : PySem.W.keepIn K (.ref g3) = true)
    (eg4 : PySem.W.findIn K (.ref CP) "__sub__" = some (some (.ref g4)))
    (tg4 : PySem.W.typeIn K (.ref g4) = some (.type "function"))
    (lg4 : K.lookup g4 = some ⟨ocg4, odg4, .func (PySem.W.fnOf "__sub__" "Poly.__sub__" (defArgs (inClass (topS 24) 4)) (defBody (inClass (topS 24) 4)) (defScope (inClass (topS 24) 4)) .none kVg4 dcg4 pmg4 ang4 cdg4 ctg4), slg4⟩)
    (cg4 : PySem.W.codeIn K cdg4 "Poly.__sub__" = true)
    (kg4 : PySem.W.keepIn K (.ref g4) = true)
    (eg5 : PySem.W.findIn K (.ref CP) "__rsub__" = some (some (.ref g5)))
    (tg5 : PySem.W.typeIn K (.ref g5) = some (.type "function"))
    (lg5 : K.lookup g5 = some ⟨ocg5, odg5, .func (PySem.W.fnOf "__rsub__" "Poly.__rsub__" (defArgs (inClass (topS 24) 5)) (defBody (inClass (topS 24) 5)) (defScope (inClass (topS 24) 5)) .none kVg5 dcg5 pmg5 ang5 cdg5 ctg5), slg5⟩)
    (cg5 : PySem.W.codeIn K cdg5 "Poly.__rsub__" = true)
    (kg5 : PySem.W.keepIn K (.ref g5) = true)
    (eg6 : PySem.W.findIn K (.ref CP) "__mul__" = some (some (.ref g6)))
    (tg6 : PySem.W.typeIn K (.ref g6) = some (.type "function"))
    (lg6 : K.lookup g6 = some ⟨ocg6, odg6, .func (PySem.W.fnOf "__mul__" "Poly.__mul__" (defArgs (inClass (topS 24) 6)) (defBody (inClass (topS 24) 6)) (defScope (inClass (topS 24) 6)) .none kVg6 dcg6 pmg6 ang6 cdg6 ctg6), slg6⟩)
    (cg6 : PySem.W.codeIn K cdg6 "Poly.__mul__" = true)
    (kg6 : PySem.W.keepIn K (.ref g6) = true)
    (eg7 : PySem.W.findIn K (.ref CP) "__rmul__" = some (some (.ref g7)))
    (tg7 : PySem.W.typeIn K (.ref g7) = some (.type "function"))
    (lg7 : K.lookup g7 = some ⟨ocg7, odg7, .func (PySem.W.fnOf "__rmul__" "Poly.__rmul__" (defArgs (inClass (topS 24) 7)) (defBody (inClass (topS 24) 7)) (defScope (inClass (topS 24) 7)) .none kVg7 dcg7 pmg7 ang7 cdg7 ctg7), slg7⟩)
    (cg7 : PySem.W.codeIn K cdg7 "Poly.__rmul__" = true)
    (kg7 : PySem.W.keepIn K (.ref g7) = true)
    (eg8 : PySem.W.findIn K (.ref CP) "__neg__" = some (some (.ref g8)))
    (tg8 : PySem.W.typeIn K (.ref g8) = some (.type "function"))
    (lg8 : K.lookup g8 = some ⟨ocg8, odg8, .func (PySem.W.fnOf "__neg__" "Poly.__neg__" (defArgs (inClass (topS 24) 8)) (defBody (inClass (topS 24) 8)) (defScope (inClass (topS 24) 8)) .none kVg8 dcg8 pmg8 ang8 cdg8 ctg8), slg8⟩)
    (cg8 : PySem.W.codeIn K cdg8 "Poly.__neg__" = true)
    (kg8 : PySem.W.keepIn K (.ref g8) = true)
    (eg9 : PySem.W.findIn K (.ref CP) "at" = some (some (.ref g9)))
    (tg9 : PySem.W.typeIn K (.ref g9) = some (.type "function"))
    (lg9 : K.lookup g9 = some ⟨ocg9, odg9, .func (PySem.W.fnOf "at" "Poly.at" (defArgs (inClass (topS 24) 11)) (defBody (inClass (topS 24) 11)) (defScope (inClass (topS 24) 11)) .none kVg9 dcg9 pmg9 ang9 cdg9 ctg9), slg9⟩)
    (cg9 : PySem.W.codeIn K cdg9 "Poly.at" = true)
    (kg9 : PySem.W.keepIn K (.ref g9) = true)
    (eg10 : PySem.W.findIn K (.ref CP) "slope" = some (some (.ref g10)))
    (tg10 : PySem.W.typeIn K (.ref g10) = some (.type "function"))
    (lg10 : K.lookup g10 = some ⟨ocg10, odg10, .func (PySem.W.fnOf "slope" "Poly.slope" (defArgs (inClass (topS 24) 12)) (defBody (inClass (topS 24) 12)) (defScope (inClass (topS 24) 12)) .none kVg10 dcg10 pmg10 ang10 cdg10 ctg10), slg10⟩)
    (cg10 : PySem.W.codeIn K cdg10 "Poly.slope" = true)
    (kg10 : PySem.W.keepIn K (.ref g10) = true)
    (eg11 : PySem.W.findIn K (.ref CP) "moved" = some (some (.ref g11)))
    (tg11 : PySem.W.typeIn K (.ref g11) = some (.type "function"))
    (lg11 : K.lookup g11 = some ⟨ocg11, odg11, .func (PySem.W.fnOf "moved" "Poly.moved" (defArgs (inClass (topS 24) 13)) (defBody (inClass (topS 24) 13)) (defScope (inClass (topS 24) 13)) .none kVg11 dcg11 pmg11 ang11 cdg11 ctg11), slg11⟩)
    (cg11 : PySem.W.codeIn K cdg11 "Poly.moved" = true)
    (kg11 : PySem.W.keepIn K (.ref g11) = true)
    (zint : PySem.W.nsIn K mainGlobals "int" = some none)
    (zlist : PySem.W.nsIn K mainGlobals "list" = some none)
    (zlen : PySem.W.nsIn K mainGlobals "len" = some none)
    (zrange : PySem.W.nsIn K mainGlobals "range" = some none)
    (zstr : PySem.W.nsIn K mainGlobals "str" = some none)
    (zrepr : PySem.W.nsIn K mainGlobals "repr" = some none)
    (zisinstance : PySem.W.nsIn K mainGlobals "isinstance" = some none)
    (zbool : PySem.W.nsIn K mainGlobals "bool" = some none)
    (ztuple : PySem.W.nsIn K mainGlobals "tuple" = some none)
    (zabs : PySem.W.nsIn K mainGlobals "abs" = some none)
    (zall : PySem.W.nsIn K mainGlobals "all" = some none)
    (zmax : PySem.W.nsIn K mainGlobals "max" = some none)
    (zmin : PySem.W.nsIn K mainGlobals "min" = some none)
    (zsum : PySem.W.nsIn K mainGlobals "sum" = some none)
    (zzip : PySem.W.nsIn K mainGlobals "zip" = some none)
    (bigS : posB K CP = true)
    (big : lookB K [C0, C1, C2, C3, C4, C5, C6] = true)
    (bigP : polyB K CP = true) :
    LawG l w K CX0 12 63 "_law_script" mg fa h := by
  have e := hfa.symm.trans (PySem.W.mg_of X G a38)
  cases e
  have Lk := looked (cs := [C0, C1, C2, C3, C4, C5, C6]) big
  have mgo : ∀ {x : Str} {a : Value}, PySem.W.nsIn K mainGlobals x = some (some a) → mg x = some a := fun z => PySem.W.mg_of X G z
  have mgn : ∀ {x : Str}, PySem.W.nsIn K mainGlobals x = some none → mg x = none := fun z => PySem.W.mg_none_of X G z
  have tb := TB "law" _ cL Pt _ _ _ _ _ _ tr hfa l38 rfl rfl tl tv
  have F0 := fun_mk (st := sPen) l0 c0 k0
  have F1 := fun_mk (st := sDraw) l1 c1 k1
  have F2 := fun_mk (st := sPick) l2 c2 k2
  have F3 := fun_mk (st := sIsWhole) l3 c3 k3
  have F4 := fun_mk (st := sIsRatio) l4 c4 k4
  have F5 := fun_mk (st := sIsRow) l5 c5 k5
  have F6 := fun_mk (st := sLowest) l6 c6 k6
  have F7 := fun_mk (st := sParts) l7 c7 k7
  have F8 := fun_mk (st := sTold) l8 c8 k8
  have F9 := fun_mk (st := sPlus) l9 c9 k9
  have F10 := fun_mk (st := sTimes) l10 c10 k10
  have F11 := fun_mk (st := sPN) l11 c11 k11
  have F12 := fun_mk (st := sPRow) l12 c12 k12
  have F13 := fun_mk (st := sAsP) l13 c13 k13
  have F14 := fun_mk (st := sNumOf) l14 c14 k14
  have F15 := fun_mk (st := sSums) l15 c15 k15
  have F16 := fun_mk (st := sOpp) l16 c16 k16
  have F17 := fun_mk (st := sProds) l17 c17 k17
  have F18 := fun_mk (st := sOver) l18 c18 k18
  have F19 := fun_mk (st := sPOv) l19 c19 k19
  have F20 := fun_mk (st := sLGcd) l20 c20 k20
  have F21 := fun_mk (st := sLQ) l21 c21 k21
  have F22 := fun_mk (st := sLPlus) l22 c22 k22
  have F23 := fun_mk (st := sLTimes) l23 c23 k23
  have F24 := fun_mk (st := sLRatio) l24 c24 k24
  have F25 := fun_mk (st := sLPoly) l25 c25 k25
  have F26 := fun_mk (st := sLPPlus) l26 c26 k26
  have F27 := fun_mk (st := sLPScaled) l27 c27 k27
  have F28 := fun_mk (st := sLPMinus) l28 c28 k28
  have F29 := fun_mk (st := sLPTimes) l29 c29 k29
  have F30 := fun_mk (st := sLPAt) l30 c30 k30
  have F31 := fun_mk (st := sLPSlope) l31 c31 k31
  have F32 := fun_mk (st := sLPMoved) l32 c32 k32
  have F33 := fun_mk (st := sPassed) l33 c33 k33
  have F34 := fun_mk (st := sMade) l34 c34 k34
  have F35 := fun_mk (st := sDrawn) l35 c35 k35
  have F36 := fun_mk (st := sWhy) l36 c36 k36
  have F37 := fun_mk (st := sAny) l37 c37 k37
  have F38 := fun_mk (st := sLaw) l38 c38 k38
  have b0 := F0.binds (ps := ["_law_script"]) fun _ _ _ _ _ _ us hl => match us, hl with | [_], _ => rfl
  have b1 := F1.binds (ps := ["_law_pen_here", "_law_many"]) fun _ _ _ _ _ _ us hl => match us, hl with | [_, _], _ => rfl
  have b2 := F2.binds (ps := ["_law_pen_here", "_law_some"]) fun _ _ _ _ _ _ us hl => match us, hl with | [_, _], _ => rfl
  have b3 := F3.binds (ps := ["value"]) fun _ _ _ _ _ _ us hl => match us, hl with | [_], _ => rfl
  have b4 := F4.binds (ps := ["value"]) fun _ _ _ _ _ _ us hl => match us, hl with | [_], _ => rfl
  have b5 := F5.binds (ps := ["value"]) fun _ _ _ _ _ _ us hl => match us, hl with | [_], _ => rfl
  have b6 := F6.binds (ps := ["top", "bottom"]) fun _ _ _ _ _ _ us hl => match us, hl with | [_, _], _ => rfl
  have b7 := F7.binds (ps := ["value", "what"]) fun _ _ _ _ _ _ us hl => match us, hl with | [_, _], _ => rfl
  have b8 := F8.binds (ps := ["value", "what"]) fun _ _ _ _ _ _ us hl => match us, hl with | [_, _], _ => rfl
  have b9 := F9.binds (ps := ["one", "other"]) fun _ _ _ _ _ _ us hl => match us, hl with | [_, _], _ => rfl
  have b10 := F10.binds (ps := ["one", "other"]) fun _ _ _ _ _ _ us hl => match us, hl with | [_, _], _ => rfl
  have b11 := F11.binds (ps := ["one", "other", "power"]) fun _ _ _ _ _ _ us hl => match us, hl with | [_, _, _], _ => rfl
  have b12 := F12.binds (ps := ["one", "other"]) fun _ _ _ _ _ _ us hl => match us, hl with | [_, _], _ => rfl
  have b13 := F13.binds (ps := ["value"]) fun _ _ _ _ _ _ us hl => match us, hl with | [_], _ => rfl
  have b14 := F14.binds (ps := ["numbers", "power"]) fun _ _ _ _ _ _ us hl => match us, hl with | [_, _], _ => rfl
  have b15 := F15.binds (ps := ["one", "other"]) fun _ _ _ _ _ _ us hl => match us, hl with | [_, _], _ => rfl
  have b16 := F16.binds (ps := ["numbers"]) fun _ _ _ _ _ _ us hl => match us, hl with | [_], _ => rfl
  have b17 := F17.binds (ps := ["one", "other"]) fun _ _ _ _ _ _ us hl => match us, hl with | [_, _], _ => rfl
  have b18 := F18.binds (ps := ["numbers"]) fun _ _ _ _ _ _ us hl => match us, hl with | [_], _ => rfl
  have b19 := F19.binds (ps := ["row", "bottom"]) fun _ _ _ _ _ _ us hl => match us, hl with | [_, _], _ => rfl
  have b20 := F20.binds (ps := ["_law_one", "_law_two"]) fun _ _ _ _ _ _ us hl => match us, hl with | [_, _], _ => rfl
  have b21 := F21.binds (ps := ["_law_top", "_law_bottom"]) fun _ _ _ _ _ _ us hl => match us, hl with | [_, _], _ => rfl
  have b22 := F22.binds (ps := ["_law_one", "_law_two"]) fun _ _ _ _ _ _ us hl => match us, hl with | [_, _], _ => rfl
  have b23 := F23.binds (ps := ["_law_one", "_law_two"]) fun _ _ _ _ _ _ us hl => match us, hl with | [_, _], _ => rfl
  have b24 := F24.binds (ps := ["_law_pen_here", "_law_most"]) fun _ _ _ _ _ _ us hl => match us, hl with | [_, _], _ => rfl
  have b25 := F25.binds (ps := ["_law_numbers"]) fun _ _ _ _ _ _ us hl => match us, hl with | [_], _ => rfl
  have b26 := F26.binds (ps := ["_law_one", "_law_two"]) fun _ _ _ _ _ _ us hl => match us, hl with | [_, _], _ => rfl
  have b27 := F27.binds (ps := ["_law_one", "_law_by"]) fun _ _ _ _ _ _ us hl => match us, hl with | [_, _], _ => rfl
  have b28 := F28.binds (ps := ["_law_one", "_law_two"]) fun _ _ _ _ _ _ us hl => match us, hl with | [_, _], _ => rfl
  have b29 := F29.binds (ps := ["_law_one", "_law_two"]) fun _ _ _ _ _ _ us hl => match us, hl with | [_, _], _ => rfl
  have b30 := F30.binds (ps := ["_law_one", "_law_point"]) fun _ _ _ _ _ _ us hl => match us, hl with | [_, _], _ => rfl
  have b31 := F31.binds (ps := ["_law_one"]) fun _ _ _ _ _ _ us hl => match us, hl with | [_], _ => rfl
  have b32 := F32.binds (ps := ["_law_one", "_law_start", "_law_step"]) fun _ _ _ _ _ _ us hl => match us, hl with | [_, _, _], _ => rfl
  have b33 := F33.binds (ps := ["_law_pen_here", "_law_ratio_here"]) fun _ _ _ _ _ _ us hl => match us, hl with | [_, _], _ => rfl
  have b34 := F34.binds (ps := ["_law_pen_here", "_law_one"]) fun _ _ _ _ _ _ us hl => match us, hl with | [_, _], _ => rfl
  have b35 := F35.binds (ps := ["_law_pen_here", "_law_degree", "_law_most"]) fun _ _ _ _ _ _ us hl => match us, hl with | [_, _, _], _ => rfl
  have b36 := F36.binds (ps := ["_law_call"]) fun _ _ _ _ _ _ us hl => match us, hl with | [_], _ => rfl
  have b37 := F37.binds (ps := ["_law_pen_here"]) fun _ _ _ _ _ _ us hl => match us, hl with | [_], _ => rfl
  have FI1 := fun_mk (st := inClass (topS 8) 0) li1 ci1 ki1
  have bI1 := FI1.binds (ps := ["self", "what", "number"]) fun _ _ _ _ _ _ us hl => match us, hl with | [_, _, _], _ => rfl
  have oo1 : OexC K C1 := oexB_ok (Bool.and_eq_true_iff.mp Lk.ox).1 ⟨nm1, qn1, N1, bs1, bm1, sn1, sub1, ab1, col1, dd1, ka1, kb1, kc1, kd1, ke1, lc1, lb1⟩
  have FI2 := fun_mk (st := inClass (topS 9) 0) li2 ci2 ki2
  have bI2 := FI2.binds (ps := ["self", "row"]) fun _ _ _ _ _ _ us hl => match us, hl with | [_, _], _ => rfl
  have oo2 : OexC K C2 := oexB_ok (Bool.and_eq_true_iff.mp Lk.ox).2 ⟨nm2, qn2, N2, bs2, bm2, sn2, sub2, ab2, col2, dd2, ka2, kb2, kc2, kd2, ke2, lc2, lb2⟩
  obtain ⟨PC, PMk, PKp⟩ := polyC (mg := mg) (mgo mP) bigP
  have FG0 := fun_mk (st := inClass (topS 24) 0) lg0 cg0 kg0
  have bg0 := FG0.binds (ps := ["self", "numbers"]) fun _ _ _ _ _ _ us hl => match us, hl with | [_, _], _ => rfl
  have FG1 := fun_mk (st := inClass (topS 24) 1) lg1 cg1 kg1
  have bg1 := FG1.binds (ps := ["self", "other"]) fun _ _ _ _ _ _ us hl => match us, hl with | [_, _], _ => rfl
  have FG2 := fun_mk (st := inClass (topS 24) 2) lg2 cg2 kg2
  have bg2 := FG2.binds (ps := ["self", "other"]) fun _ _ _ _ _ _ us hl => match us, hl with | [_, _], _ => rfl
  have FG3 := fun_mk (st := inClass (topS 24) 3) lg3 cg3 kg3
  have bg3 := FG3.binds (ps := ["self", "other"]) fun _ _ _ _ _ _ us hl => match us, hl with | [_, _], _ => rfl
  have FG4 := fun_mk (st := inClass (topS 24) 4) lg4 cg4 kg4
  have bg4 := FG4.binds (ps := ["self", "other"]) fun _ _ _ _ _ _ us hl => match us, hl with | [_, _], _ => rfl
  have FG5 := fun_mk (st := inClass (topS 24) 5) lg5 cg5 kg5
  have bg5 := FG5.binds (ps := ["self", "other"]) fun _ _ _ _ _ _ us hl => match us, hl with | [_, _], _ => rfl
  have FG6 := fun_mk (st := inClass (topS 24) 6) lg6 cg6 kg6
  have bg6 := FG6.binds (ps := ["self", "other"]) fun _ _ _ _ _ _ us hl => match us, hl with | [_, _], _ => rfl
  have FG7 := fun_mk (st := inClass (topS 24) 7) lg7 cg7 kg7
  have bg7 := FG7.binds (ps := ["self", "other"]) fun _ _ _ _ _ _ us hl => match us, hl with | [_, _], _ => rfl
  have FG8 := fun_mk (st := inClass (topS 24) 8) lg8 cg8 kg8
  have bg8 := FG8.binds (ps := ["self"]) fun _ _ _ _ _ _ us hl => match us, hl with | [_], _ => rfl
  have FG9 := fun_mk (st := inClass (topS 24) 11) lg9 cg9 kg9
  have bg9 := FG9.binds (ps := ["self", "point"]) fun _ _ _ _ _ _ us hl => match us, hl with | [_, _], _ => rfl
  have FG10 := fun_mk (st := inClass (topS 24) 12) lg10 cg10 kg10
  have bg10 := FG10.binds (ps := ["self"]) fun _ _ _ _ _ _ us hl => match us, hl with | [_], _ => rfl
  have FG11 := fun_mk (st := inClass (topS 24) 13) lg11 cg11 kg11
  have bg11 := FG11.binds (ps := ["self", "start", "step"]) fun _ _ _ _ _ _ us hl => match us, hl with | [_, _, _], _ => rfl
  have B : Bi mg := { int := mgn zint, list := mgn zlist, len := mgn zlen, range := mgn zrange }
  have T : Bk mg := { toBi := B, isinstance := mgn zisinstance, bool := mgn zbool, tuple := mgn ztuple, abs := mgn zabs, str := mgn zstr, gcd := mgo aggcd }
  have W : Wc K mg ([C0, C1, C2, C3, C4, C5, C6].getD · 0) := { m0 := mgo m0, m1 := mgo m1, m2 := mgo m2, m3 := mgo m3, m4 := mgo m4, m5 := mgo m5, m6 := mgo m6, xf := Lk.xf, ex := Lk.ex, n0 := Lk.no (0, "column") (by simp [fieldsOf]), n1 := Lk.no (1, "what") (by simp [fieldsOf]), n1b := Lk.no (1, "number") (by simp [fieldsOf]), n2 := Lk.no (2, "row") (by simp [fieldsOf]), n3 := Lk.no (3, "what") (by simp [fieldsOf]), n3b := Lk.no (3, "limit") (by simp [fieldsOf]), n4 := Lk.no (4, "what") (by simp [fieldsOf]), repr := mgn zrepr }
  let Y : Yy K mg := ⟨f36, kVf36, dcf36, pmf36, anf36, cdf36, ctf36, ocf36, odf36, slf36, mgo a36, k36, l36, c36, b36⟩
  have bl : ∀ (s : Shared) (u : Value), BindsTo s (PySem.W.fnOf "law" "law" (defArgs sLaw) (defBody sLaw) (defScope sLaw) .none kVf38 dcf38 pmf38 anf38 (.ref cL) ctf38) ⟨[u], []⟩ [("_law_script", u)] := fun s u => .of_eq rfl
  refine ⟨_, [(cL, Pt)], spLaw K Pt, (fun p hp => by rw [List.mem_singleton.mp hp]; exact tb.2), (fun p hp => by rw [List.mem_singleton.mp hp]; exact tn), (fun p hp => by rw [List.mem_singleton.mp hp]; exact tb.1), (fun s u => bl s u), (fun H a ns hl _ hT hS => ⟨a, ns, rfl, hS, hl, hT _ (List.mem_singleton.mpr rfl), fun _ => rfl⟩), fun b _ _ mm1 hTB => ?_⟩
  have hTb : LamX.TabB b mg cL Pt := hTB _ (List.mem_singleton.mpr rfl)
  let NBadNumber : Ex l.prog w K mg b "BadNumber" C1 ["what", "number"] := ⟨oo1, i1, _, mgo m1, ei1, ti1, bI1, iniBadNumber FI1 oo1 W.n1 W.n1b⟩
  let NBadRow : Ex l.prog w K mg b "BadRow" C2 ["row"] := ⟨oo2, i2, _, mgo m2, ei2, ti2, bI2, iniBadRow FI2 oo2 W.n2⟩
  let G_law_draw : Df l.prog w K mg b "_law_draw" 1 ["_law_pen_here", "_law_many"] spDraw := ⟨f1, _, mgo a1, k1, b1, ok_draw F1 B⟩
  let G_law_pick : Df l.prog w K mg b "_law_pick" 2 ["_law_pen_here", "_law_some"] spPick := ⟨f2, _, mgo a2, k2, b2, ok_pick F2 B G_law_draw⟩
  let G_law_pen : Df l.prog w K mg b "_law_pen" 1 ["_law_script"] (spPen K) := ⟨f0, _, mgo a0, k0, b0, ok_pen F0 B⟩
  let Gis_whole : Df l.prog w K mg b "is_whole" 1 ["value"] (spWhole K) := ⟨f3, _, mgo a3, k3, b3, ok_is_whole F3 T⟩
  let Gis_ratio : Df l.prog w K mg b "is_ratio" 2 ["value"] (spIsRatio K) := ⟨f4, _, mgo a4, k4, b4, ok_is_ratio F4 T Gis_whole⟩
  let Gis_ratio_row : Df l.prog w K mg b "is_ratio_row" 3 ["value"] (spIsRow K) := ⟨f5, _, mgo a5, k5, b5, ok_is_row F5 T (mgn zall) Gis_ratio⟩
  let Glowest : Df l.prog w K mg b "lowest" 1 ["top", "bottom"] spLow := ⟨f6, _, mgo a6, k6, b6, ok_lowest F6 T⟩
  let Gparts_of : Dx l.prog w K mg b "parts_of" 3 ["value", "what"] (spParts K C1) := ⟨f7, _, mgo a7, k7, b7, ok_parts F7 T Gis_ratio NBadNumber⟩
  let Gtold : Dx l.prog w K mg b "told" 4 ["value", "what"] (spTold K C1) := ⟨f8, _, mgo a8, k8, b8, ok_told F8 Gparts_of Glowest⟩
  let Gplus : Dx l.prog w K mg b "plus" 4 ["one", "other"] (spTwo K C1 (okLow gPlus)) := ⟨f9, _, mgo a9, k9, b9, ok_plus F9 Gparts_of Glowest NBadNumber⟩
  let Gtimes : Dx l.prog w K mg b "times" 4 ["one", "other"] (spTwo K C1 (okLow gTimes)) := ⟨f10, _, mgo a10, k10, b10, ok_times F10 Gparts_of Glowest NBadNumber⟩
  let PM : PoM l.prog w K mg b CP C2 := ⟨PC, g0, _, ⟨PMk, eg0, fn_of_ty tg0, PKp⟩, bg0, ok_poly_init FG0 T PC NBadRow Gis_ratio_row Gtold, g1, _, eg1, fn_of_ty tg1, bg1, ok_poly_eq FG1 T mm1 PC⟩
  let Gproduct_number : Df l.prog w K mg b "product_number" 1 ["one", "other", "power"] spPN := ⟨f11, _, mgo a11, k11, b11, ok_pn F11 T (mgn zmax) (mgn zmin) (mgn zsum)⟩
  let Gproduct_row : Df l.prog w K mg b "product_row" 2 ["one", "other"] (spPRow K) := ⟨f12, _, mgo a12, k12, b12, ok_prow F12 T Gproduct_number⟩
  let Gas_poly : Dx l.prog w K mg b "as_poly" 7 ["value"] (spAsP K CP) := ⟨f13, _, mgo a13, k13, b13, ok_asp F13 T PM Gis_ratio⟩
  let Gnumber_of : Df l.prog w K mg b "number_of" 1 ["numbers", "power"] (spNumOf K) := ⟨f14, _, mgo a14, k14, b14, ok_num_of F14 T⟩
  let Gsums_of : Dx l.prog w K mg b "sums_of" 5 ["one", "other"] (spSums K) := ⟨f15, _, mgo a15, k15, b15, ok_sums F15 T (mgn zmax) Gnumber_of Gplus⟩
  let Gopposites_of : Df l.prog w K mg b "opposites_of" 1 ["numbers"] (spOpp K) := ⟨f16, _, mgo a16, k16, b16, ok_opp F16⟩
  let Gover_one_bottom : Df l.prog w K mg b "over_one_bottom" 1 ["numbers"] (spOver K) := ⟨f18, _, mgo a18, k18, b18, ok_over F18 (mgo aglcm)⟩
  let Gproducts_of : Df l.prog w K mg b "products_of" 3 ["one", "other"] (spProds K) := ⟨f17, _, mgo a17, k17, b17, ok_prods F17 Gover_one_bottom Gproduct_row⟩
  let Gpoly_over : Dx l.prog w K mg b "poly_over" 7 ["row", "bottom"] (spPOv K CP) := ⟨f19, _, mgo a19, k19, b19, ok_pov F19 PM⟩
  let G_law_gcd : Df l.prog w K mg b "_law_gcd" 1 ["_law_one", "_law_two"] spGcd := ⟨f20, _, mgo a20, k20, b20, ok_lgcd F20 T⟩
  let G_law_q : Df l.prog w K mg b "_law_q" 2 ["_law_top", "_law_bottom"] spQ := ⟨f21, _, mgo a21, k21, b21, ok_lq F21 G_law_gcd⟩
  let G_law_plus : Df l.prog w K mg b "_law_plus" 3 ["_law_one", "_law_two"] (spL2 rAdd) := ⟨f22, _, mgo a22, k22, b22, ok_lplus F22 G_law_q⟩
  let G_law_times : Df l.prog w K mg b "_law_times" 3 ["_law_one", "_law_two"] (spL2 rMul) := ⟨f23, _, mgo a23, k23, b23, ok_ltimes F23 G_law_q⟩
  let G_law_ratio : Df l.prog w K mg b "_law_ratio" 3 ["_law_pen_here", "_law_most"] spRatio := ⟨f24, _, mgo a24, k24, b24, ok_lratio F24 G_law_draw G_law_pick G_law_q⟩
  let G_law_poly : Df l.prog w K mg b "_law_poly" 1 ["_law_numbers"] (spLPoly K) := ⟨f25, _, mgo a25, k25, b25, ok_lpoly F25 T mm1⟩
  let G_law_p_plus : Df l.prog w K mg b "_law_p_plus" 4 ["_law_one", "_law_two"] spLPP := ⟨f26, _, mgo a26, k26, b26, ok_lpplus F26 T (mgn zmax) (mgn zzip) G_law_poly G_law_plus⟩
  let G_law_p_scaled : Df l.prog w K mg b "_law_p_scaled" 4 ["_law_one", "_law_by"] spLPS := ⟨f27, _, mgo a27, k27, b27, ok_lpscaled F27 G_law_poly G_law_times⟩
  let G_law_p_minus : Df l.prog w K mg b "_law_p_minus" 5 ["_law_one", "_law_two"] spLPM := ⟨f28, _, mgo a28, k28, b28, ok_lpminus F28 G_law_p_plus G_law_p_scaled⟩
  let G_law_p_times : Df l.prog w K mg b "_law_p_times" 4 ["_law_one", "_law_two"] spLPT := ⟨f29, _, mgo a29, k29, b29, ok_lptimes F29 T (mgn zmax) G_law_poly G_law_plus G_law_times⟩
  let G_law_p_at : Df l.prog w K mg b "_law_p_at" 4 ["_law_one", "_law_point"] spLPA := ⟨f30, _, mgo a30, k30, b30, ok_lpat F30 G_law_plus G_law_times⟩
  let G_law_p_slope : Df l.prog w K mg b "_law_p_slope" 4 ["_law_one"] spLPSl := ⟨f31, _, mgo a31, k31, b31, ok_lpslope F31 T G_law_poly G_law_times⟩
  let G_law_p_moved : Df l.prog w K mg b "_law_p_moved" 5 ["_law_one", "_law_start", "_law_step"] spLPMv := ⟨f32, _, mgo a32, k32, b32, ok_lpmoved F32 G_law_poly G_law_p_plus G_law_p_times⟩
  let G_law_passed : Df l.prog w K mg b "_law_passed" 3 ["_law_pen_here", "_law_ratio_here"] (spPassed K) := ⟨f33, _, mgo a33, k33, b33, ok_passed F33 G_law_draw G_law_pick⟩
  let G_law_any : Df l.prog w K mg b "_law_any" 3 ["_law_pen_here"] (spAny K) := ⟨f37, _, mgo a37, k37, b37, ok_any F37 G_law_pick⟩
  let G_law_made_poly : Df l.prog w K mg b "_law_made_poly" 7 ["_law_pen_here", "_law_one"] (spMade K CP) := ⟨f34, _, mgo a34, k34, b34, ok_made F34 T PM G_law_draw G_law_pick G_law_passed⟩
  let G_law_drawn : Df l.prog w K mg b "_law_drawn" 4 ["_law_pen_here", "_law_degree", "_law_most"] spDrawn := ⟨f35, _, mgo a35, k35, b35, ok_drawn F35 T G_law_draw G_law_ratio G_law_poly⟩
  let MA : OpM l.prog w K mg b CP "add" (fun A B => padd A B) (fun A B => padd B A) := ⟨g2, g3, _, _, by rw [dun_add]; exact eg2, by rw [dunR_add]; exact eg3, fn_of_ty tg2, fn_of_ty tg3, bg2, bg3, ok_padd FG2 T PM Gas_poly Gsums_of, ok_pradd FG3 T PM Gas_poly Gsums_of⟩
  let MS : OpM l.prog w K mg b CP "sub" (fun A B => padd A (B.map (- ·))) (fun A B => padd B (A.map (- ·))) := ⟨g4, g5, _, _, by rw [dun_sub]; exact eg4, by rw [dunR_sub]; exact eg5, fn_of_ty tg4, fn_of_ty tg5, bg4, bg5, ok_psub FG4 T PM Gas_poly Gsums_of Gopposites_of, ok_prsub FG5 T PM Gas_poly Gsums_of Gopposites_of⟩
  let MM : OpM l.prog w K mg b CP "mul" (fun A B => pmul A B) (fun A B => pmul B A) := ⟨g6, g7, _, _, by rw [dun_mul]; exact eg6, by rw [dunR_mul]; exact eg7, fn_of_ty tg6, fn_of_ty tg7, bg6, bg7, ok_pmul FG6 T PM Gas_poly Gproducts_of, ok_prmul FG7 T PM Gas_poly Gproducts_of⟩
  let NG : NegM l.prog w K mg b CP := ⟨g8, _, eg8, fn_of_ty tg8, bg8, ok_pneg FG8 PM Gopposites_of⟩
  let M_at : MeX l.prog w K mg b CP "at" 5 ["self", "point"] (spAt K CP C1) := ⟨g9, _, ⟨eg9, fn_of_ty tg9, kg9⟩, bg9, ok_at FG9 PC Gtold Gover_one_bottom Glowest⟩
  let M_slope : MeX l.prog w K mg b CP "slope" 7 ["self"] (spSlope K CP) := ⟨g10, _, ⟨eg10, fn_of_ty tg10, kg10⟩, bg10, ok_slope FG10 T PM Gtimes⟩
  let M_moved : MeX l.prog w K mg b CP "moved" 8 ["self", "start", "step"] (spMoved K CP C1) := ⟨g11, _, ⟨eg11, fn_of_ty tg11, kg11⟩, bg11, ok_moved FG11 PC (mgo aglcm) Gtold Gover_one_bottom Gproduct_row Gpoly_over⟩
  have PS := posC bigS
  exact ok_law (C := ([C0, C1, C2, C3, C4, C5, C6].getD · 0)) F38 T W mm1 cL Pt rfl hTb Y PM G_law_pen G_law_draw G_law_pick G_law_passed G_law_any G_law_ratio G_law_poly G_law_drawn G_law_made_poly G_law_p_plus G_law_p_scaled G_law_p_minus G_law_p_times G_law_p_at G_law_p_slope G_law_p_moved M_slope M_at M_moved MA MS MM NG PS
end Vf

open PySem PySem.W PyProof.Rows
set_option maxRecDepth 100000 in
set_option maxHeartbeats 0 in
theorem PySem.Challenge.cw_nearcurves_k04_whole_sums_and_values_of_holds : PySem.Challenge.rw_nearcurves_k04_whole_sums_and_values_of.Holds := by
  w_on; o_law; k_head; (case hw => w_witness2)
  k_fill
  refine Vf.walkT (l := PySem.Challenge.rw_nearcurves_k04_whole_sums_and_values_of) (n := 63) (k := 12) (C := fun _ => L2.CX0) (x := "_law_script") rfl (by decide) rfl ⟨rfl, by decide, by decide⟩ (by decide +kernel) (fun w h Y => PySem.W.km_in_of Y) ?F (fun _ _ _ _ _ z => z)
  case F =>
    intro w mg fa h Y X G hmg TB
    refine' Vf.all_mk X G hmg TB ?a0 ?l0 ?c0 ?k0 ?a1 ?l1 ?c1 ?k1 ?a2 ?l2 ?c2 ?k2 ?a3 ?l3 ?c3 ?k3 ?a4 ?l4 ?c4 ?k4 ?a5 ?l5 ?c5 ?k5 ?a6 ?l6 ?c6 ?k6 ?a7 ?l7 ?c7 ?k7 ?a8 ?l8 ?c8 ?k8 ?a9 ?l9 ?c9 ?k9 ?a10 ?l10 ?c10 ?k10 ?a11 ?l11 ?c11 ?k11 ?a12 ?l12 ?c12 ?k12 ?a13 ?l13 ?c13 ?k13 ?a14 ?l14 ?c14 ?k14 ?a15 ?l15 ?c15 ?k15 ?a16 ?l16 ?c16 ?k16 ?a17 ?l17 ?c17 ?k17 ?a18 ?l18 ?c18 ?k18 ?a19 ?l19 ?c19 ?k19 ?a20 ?l20 ?c20 ?k20 ?a21 ?l21 ?c21 ?k21 ?a22 ?l22 ?c22 ?k22 ?a23 ?l23 ?c23 ?k23 ?a24 ?l24 ?c24 ?k24 ?a25 ?l25 ?c25 ?k25 ?a26 ?l26 ?c26 ?k26 ?a27 ?l27 ?c27 ?k27 ?a28 ?l28 ?c28 ?k28 ?a29 ?l29 ?c29 ?k29 ?a30 ?l30 ?c30 ?k30 ?a31 ?l31 ?c31 ?k31 ?a32 ?l32 ?c32 ?k32 ?a33 ?l33 ?c33 ?k33 ?a34 ?l34 ?c34 ?k34 ?a35 ?l35 ?c35 ?k35 ?a36 ?l36 ?c36 ?k36 ?a37 ?l37 ?c37 ?k37 ?a38 ?l38 ?c38 ?k38 ?tl ?tv ?tn ?tr ?aggcd ?aglcm ?m0 ?m1 ?m2 ?m3 ?m4 ?m5 ?m6 ?ei1 ?ti1 ?li1 ?ci1 ?ki1 ?lc1 ?lb1 ?ei2 ?ti2 ?li2 ?ci2 ?ki2 ?lc2 ?lb2 ?mP ?eg0 ?tg0 ?lg0 ?cg0 ?kg0 ?eg1 ?tg1 ?lg1 ?cg1 ?kg1 ?eg2 ?tg2 ?lg2 ?cg2 ?kg2 ?eg3 ?tg3 ?lg3 ?cg3 ?kg3 ?eg4 ?tg4 ?lg4 ?cg4 ?kg4 ?eg5 ?tg5 ?lg5 ?cg5 ?kg5 ?eg6 ?tg6 ?lg6 ?cg6 ?kg6 ?eg7 ?tg7 ?lg7 ?cg7 ?kg7 ?eg8 ?tg8 ?lg8 ?cg8 ?kg8 ?eg9 ?tg9 ?lg9 ?cg9 ?kg9 ?eg10 ?tg10 ?lg10 ?cg10 ?kg10 ?eg11 ?tg11 ?lg11 ?cg11 ?kg11 ?zint ?zlist ?zlen ?zrange ?zstr ?zrepr ?zisinstance ?zbool ?ztuple ?zabs ?zall ?zmax ?zmin ?zsum ?zzip ?bigS ?big ?bigP
    (case a0 => k_is)
    (case l0 => k_is)
    (case c0 => k_is)
    (case k0 => k_is)
    (case a1 => k_is)
    (case l1 => k_is)
    (case c1 => k_is)
    (case k1 => k_is)
    (case a2 => k_is)
    (case l2 => k_is)
    (case c2 => k_is)
    (case k2 => k_is)
    (case a3 => k_is)
    (case l3 => k_is)
    (case c3 => k_is)
    (case k3 => k_is)
    (case a4 => k_is)
    (case l4 => k_is)
    (case c4 => k_is)
    (case k4 => k_is)
    (case a5 => k_is)
    (case l5 => k_is)
    (case c5 => k_is)
    (case k5 => k_is)
    (case a6 => k_is)
    (case l6 => k_is)
    (case c6 => k_is)
    (case k6 => k_is)
    (case a7 => k_is)
    (case l7 => k_is)
    (case c7 => k_is)
    (case k7 => k_is)
    (case a8 => k_is)
    (case l8 => k_is)
    (case c8 => k_is)
    (case k8 => k_is)
    (case a9 => k_is)
    (case l9 => k_is)
    (case c9 => k_is)
    (case k9 => k_is)
    (case a10 => k_is)
    (case l10 => k_is)
    (case c10 => k_is)
    (case k10 => k_is)
    (case a11 => k_is)
    (case l11 => k_is)
    (case c11 => k_is)
    (case k11 => k_is)
    (case a12 => k_is)
    (case l12 => k_is)
    (case c12 => k_is)
    (case k12 => k_is)
    (case a13 => k_is)
    (case l13 => k_is)
    (case c13 => k_is)
    (case k13 => k_is)
    (case a14 => k_is)
    (case l14 => k_is)
    (case c14 => k_is)
    (case k14 => k_is)
    (case a15 => k_is)
    (case l15 => k_is)
    (case c15 => k_is)
    (case k15 => k_is)
    (case a16 => k_is)
    (case l16 => k_is)
    (case c16 => k_is)
    (case k16 => k_is)
    (case a17 => k_is)
    (case l17 => k_is)
    (case c17 => k_is)
    (case k17 => k_is)
    (case a18 => k_is)
    (case l18 => k_is)
    (case c18 => k_is)
    (case k18 => k_is)
    (case a19 => k_is)
    (case l19 => k_is)
    (case c19 => k_is)
    (case k19 => k_is)
    (case a20 => k_is)
    (case l20 => k_is)
    (case c20 => k_is)
    (case k20 => k_is)
    (case a21 => k_is)
    (case l21 => k_is)
    (case c21 => k_is)
    (case k21 => k_is)
    (case a22 => k_is)
    (case l22 => k_is)
    (case c22 => k_is)
    (case k22 => k_is)
    (case a23 => k_is)
    (case l23 => k_is)
    (case c23 => k_is)
    (case k23 => k_is)
    (case a24 => k_is)
    (case l24 => k_is)
    (case c24 => k_is)
    (case k24 => k_is)
    (case a25 => k_is)
    (case l25 => k_is)
    (case c25 => k_is)
    (case k25 => k_is)
    (case a26 => k_is)
    (case l26 => k_is)
    (case c26 => k_is)
    (case k26 => k_is)
    (case a27 => k_is)
    (case l27 => k_is)
    (case c27 => k_is)
    (case k27 => k_is)
    (case a28 => k_is)
    (case l28 => k_is)
    (case c28 => k_is)
    (case k28 => k_is)
    (case a29 => k_is)
    (case l29 => k_is)
    (case c29 => k_is)
    (case k29 => k_is)
    (case a30 => k_is)
    (case l30 => k_is)
    (case c30 => k_is)
    (case k30 => k_is)
    (case a31 => k_is)
    (case l31 => k_is)
    (case c31 => k_is)
    (case k31 => k_is)
    (case a32 => k_is)
    (case l32 => k_is)
    (case c32 => k_is)
    (case k32 => k_is)
    (case a33 => k_is)
    (case l33 => k_is)
    (case c33 => k_is)
    (case k33 => k_is)
    (case a34 => k_is)
    (case l34 => k_is)
    (case c34 => k_is)
    (case k34 => k_is)
    (case a35 => k_is)
    (case l35 => k_is)
    (case c35 => k_is)
    (case k35 => k_is)
    (case a36 => k_is)
    (case l36 => k_is)
    (case c36 => k_is)
    (case k36 => k_is)
    (case a37 => k_is)
    (case l37 => k_is)
    (case c37 => k_is)
    (case k37 => k_is)
    (case a38 => k_is)
    (case l38 => k_is)
    (case c38 => k_is)
    (case k38 => k_is)
    (case tl => k_is)
    (case tv => first | rfl | k_is)
    (case tn => first | kernel_rfl | k_is)
    (case tr => decide +kernel)
    (case aggcd => k_is)
    (case aglcm => k_is)
    (case m0 => k_is)
    (case m1 => k_is)
    (case m2 => k_is)
    (case m3 => k_is)
    (case m4 => k_is)
    (case m5 => k_is)
    (case m6 => k_is)
    (case ei1 => k_is)
    (case ti1 => k_is)
    (case li1 => k_is)
    (case ci1 => k_is)
    (case ki1 => k_is)
    (case lc1 => k_is)
    (case lb1 => decide +kernel)
    (case ei2 => k_is)
    (case ti2 => k_is)
    (case li2 => k_is)
    (case ci2 => k_is)
    (case ki2 => k_is)
    (case lc2 => k_is)
    (case lb2 => decide +kernel)
    (case mP => k_is)
    (case eg0 => k_is)
    (case tg0 => k_is)
    (case lg0 => k_is)
    (case cg0 => k_is)
    (case kg0 => k_is)
    (case eg1 => k_is)
    (case tg1 => k_is)
    (case lg1 => k_is)
    (case cg1 => k_is)
    (case kg1 => k_is)
    (case eg2 => k_is)
    (case tg2 => k_is)
    (case lg2 => k_is)
    (case cg2 => k_is)
    (case kg2 => k_is)
    (case eg3 => k_is)
    (case tg3 => k_is)
    (case lg3 => k_is)
    (case cg3 => k_is)
    (case kg3 => k_is)
    (case eg4 => k_is)
    (case tg4 => k_is)
    (case lg4 => k_is)
    (case cg4 => k_is)
    (case kg4 => k_is)
    (case eg5 => k_is)
    (case tg5 => k_is)
    (case lg5 => k_is)
    (case cg5 => k_is)
    (case kg5 => k_is)
    (case eg6 => k_is)
    (case tg6 => k_is)
    (case lg6 => k_is)
    (case cg6 => k_is)
    (case kg6 => k_is)
    (case eg7 => k_is)
    (case tg7 => k_is)
    (case lg7 => k_is)
    (case cg7 => k_is)
    (case kg7 => k_is)
    (case eg8 => k_is)
    (case tg8 => k_is)
    (case lg8 => k_is)
    (case cg8 => k_is)
    (case kg8 => k_is)
    (case eg9 => k_is)
    (case tg9 => k_is)
    (case lg9 => k_is)
    (case cg9 => k_is)
    (case kg9 => k_is)
    (case eg10 => k_is)
    (case tg10 => k_is)
    (case lg10 => k_is)
    (case cg10 => k_is)
    (case kg10 => k_is)
    (case eg11 => k_is)
    (case tg11 => k_is)
    (case lg11 => k_is)
    (case cg11 => k_is)
    (case kg11 => k_is)
    (case zint => k_is)
    (case zlist => k_is)
    (case zlen => k_is)
    (case zrange => k_is)
    (case zstr => k_is)
    (case zrepr => k_is)
    (case zisinstance => k_is)
    (case zbool => k_is)
    (case ztuple => k_is)
    (case zabs => k_is)
    (case zall => k_is)
    (case zmax => k_is)
    (case zmin => k_is)
    (case zsum => k_is)
    (case zzip => k_is)
    (case bigS => kernel_rfl)
    (case big => kernel_rfl)
    (case bigP => kernel_rfl)
