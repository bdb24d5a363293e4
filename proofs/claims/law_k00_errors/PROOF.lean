import PyProof.Rows.All
import Wide.All
import OpenK.AllK
import Wide.FinOn
import HandS.ForMost
import HandS.ForExc
import HandS.EndBits
import HandS.EndTab
import HandS.Lambda
import HandS.ExcInit
import HandS.ExcValue
import HandS.ExcIs
import HandS.IsInst
import PyProof.ReprLen
import PyProof.StrLawsRepr
import HandS.Zip
import PySem.Challenge.RW_nearcurves_k00_errors
set_option Elab.async false
set_option linter.all false
set_option maxRecDepth 100000
set_option maxHeartbeats 4000000
/-! common: data with dicts, repr, a promise where no guard stands, the entry -/
namespace Vf
open PySem PySem.Spec PyProof.Rows L2

/-- a key as data -/
def kD : Key → PyData
  | .inl i => .int i
  | .inr x => .str x

mutual
/-- the value v, read in H, is the data d (dicts too) -/
inductive Dt (K : PySem.W.Frag) (H : Hp) : V → PyData → Prop
  | non : Dt K H .non .none
  | bl (b : Bool) : Dt K H (.bl b) (.bool b)
  | int (i : Int) : Dt K H (.int i) (.int i)
  | str (x : Str) : Dt K H (.str x) (.str x)
  | lst {a : Addr} {vs : List V} {ds : List PyData} : SqL K H a vs → Dts K H vs ds → Dt K H (.ref a) (.list ds)
  | tup {a : Addr} {vs : List V} {ds : List PyData} : SqT K H a vs → Dts K H vs ds → Dt K H (.ref a) (.tuple ds)
  | dct {a : Addr} {kvs : List (Key × V)} {ds : List PyData} : H a = some (.dK kvs) → Dts K H (kvs.map (·.2)) ds → Dt K H (.ref a) (.dict ((kvs.map fun p => kD p.1).zip ds))
inductive Dts (K : PySem.W.Frag) (H : Hp) : List V → List PyData → Prop
  | nil : Dts K H [] []
  | cons {v : V} {vs : List V} {d : PyData} {ds : List PyData} : Dt K H v d → Dts K H vs ds → Dts K H (v :: vs) (d :: ds)
end

theorem Dts.len {K : PySem.W.Frag} {H : Hp} : ∀ {vs : List V} {ds : List PyData}, Dts K H vs ds → vs.length = ds.length
  | _, _, .nil => rfl
  | _, _, .cons _ t => congrArg (· + 1) t.len
theorem Dts.at {K : PySem.W.Frag} {H : Hp} : ∀ {vs : List V} {ds : List PyData} {i : Nat} {v : V}, Dts K H vs ds → vs[i]? = some v → ∃ d, ds[i]? = some d ∧ Dt K H v d
  | _, _, _, _, .nil, e => by simp at e
  | _, _, 0, _, .cons h _, e => by simp at e; subst e; exact ⟨_, rfl, h⟩
  | _, _, i + 1, v, .cons _ t, e => by
    obtain ⟨d, h1, h2⟩ := t.at (i := i) (v := v) (by simpa using e)
    exact ⟨d, by simpa using h1, h2⟩
theorem Dts.app {K : PySem.W.Frag} {H : Hp} : ∀ {vs ws : List V} {ds es : List PyData}, Dts K H vs ds → Dts K H ws es → Dts K H (vs ++ ws) (ds ++ es)
  | _, _, _, _, .nil, h => h
  | _, _, _, _, .cons a t, h => .cons a (t.app h)
theorem Dts.take {K : PySem.W.Frag} {H : Hp} : ∀ {vs : List V} {ds : List PyData} (n : Nat), Dts K H vs ds → Dts K H (vs.take n) (ds.take n)
  | _, _, 0, _ => .nil
  | _, _, _ + 1, .nil => .nil
  | _, _, n + 1, .cons a t => .cons a (t.take n)

/-- all that is tracked in H stands in H' -/
theorem same_sqL {K : PySem.W.Frag} {H H' : Hp} {a : Addr} {xs : List V} (e : Same H H') (h : SqL K H a xs) : SqL K H' a xs := e.seq h
theorem same_sqT {K : PySem.W.Frag} {H H' : Hp} {a : Addr} {xs : List V} (e : Same H H') (h : SqT K H a xs) : SqT K H' a xs := by
  rcases h with (h | ⟨o, h⟩) | h
  · exact Or.inl (Or.inl (e a _ h))
  · exact Or.inl (Or.inr ⟨o, e a _ h⟩)
  · exact Or.inr h
mutual
theorem Dt.mono {K : PySem.W.Frag} {H H' : Hp} (e : Same H H') : ∀ {v : V} {d : PyData}, Dt K H v d → Dt K H' v d
  | _, _, .non => .non
  | _, _, .bl b => .bl b
  | _, _, .int i => .int i
  | _, _, .str x => .str x
  | _, _, .lst h1 h2 => .lst (same_sqL e h1) (Dts.mono e h2)
  | _, _, .tup h1 h2 => .tup (same_sqT e h1) (Dts.mono e h2)
  | _, _, .dct h1 h2 => .dct (e _ _ h1) (Dts.mono e h2)
theorem Dts.mono {K : PySem.W.Frag} {H H' : Hp} (e : Same H H') : ∀ {vs : List V} {ds : List PyData}, Dts K H vs ds → Dts K H' vs ds
  | _, _, .nil => .nil
  | _, _, .cons h1 h2 => .cons (Dt.mono e h1) (Dts.mono e h2)
end

/-- the dict of modules stands in the base -/
def M1 (b : Heap) : Prop := ∃ o es ep, b.get? sysModules = some o ∧ o.data = .dict es ep

theorem key_reads {h : Heap} {P : Program} {w : World} : ∀ {es : List DictEntry} {vs : List (Key × Value)} {ps : List (Key × V)}, PySem.Pairs (mixKind P w) es vs → KV ps vs →
    ReadsAll h (es.map (·.key)) (ps.map fun p => kD p.1) [] ∧ Vals (ps.map (·.2)) (es.map (·.val))
  | _, _, _, .nil, .nil => ⟨.nil, .nil⟩
  | _, _, _, .cons k1 k2 t, .cons r1 r2 => by
    obtain ⟨g1, g2⟩ := key_reads (h := h) t r2
    obtain ⟨e1, e2⟩ := r1
    refine ⟨?_, .cons (by have z := e2; rw [← k2] at z; exact z) g2⟩
    rw [← e1] at k1
    rename_i e kv es' kvs' p ps'
    have k3 : keyIs p.1 e.key = true := k1
    rcases keyIs_shape k3 with ⟨i, t, a1, a2⟩ | ⟨x, t, a1, a2⟩
    · have z : Reads h e.key (kD p.1) [] := by rw [a1, a2]; exact .int i t
      exact .cons (as := []) (bs := []) z g1
    · have z : Reads h e.key (kD p.1) [] := by rw [a1, a2]; exact .str x t
      exact .cons (as := []) (bs := []) z g1
theorem zip_fst {α β : Type} : ∀ {l : List α} {r : List β}, l.length = r.length → (l.zip r).map (·.1) = l
  | [], _, _ => by simp
  | a :: l, [], h => by simp at h
  | a :: l, b :: r, h => by
    rw [List.zip_cons_cons, List.map_cons, zip_fst (by simpa using h)]
theorem zip_snd {α β : Type} : ∀ {l : List α} {r : List β}, l.length = r.length → (l.zip r).map (·.2) = r
  | [], [], _ => rfl
  | [], b :: r, h => by simp at h
  | a :: l, [], h => by simp at h
  | a :: l, b :: r, h => by
    rw [List.zip_cons_cons, List.map_cons, zip_snd (by simpa using h)]

section
variable {X : Cx} {pins : List (Addr × Obj)} {σ : L2.St} {H : Hp} {s : Shared}
theorem not_sys (I : Inv X pins σ H s) (m : M1 X.base) {a : Addr} {o : Obj} {vs : Array Value} {n : Nat} (e : s.heap.get? a = some o) (d : o.data = .seq vs n) : sysModules ≠ a := fun z => by
  obtain ⟨o1, es, ep, e1, e2⟩ := m
  have q := I.bk _ _ e1
  rw [z, e] at q
  cases q
  rw [d] at e2
  cases e2
mutual
theorem Dt.reads (I : Inv X pins σ H s) (m : M1 X.base) : ∀ {v : V} {d : PyData} {u : Value}, Dt X.K H v d → RelV v u → ∃ as, Reads s.heap u d as ∧ sysModules ∉ as
  | _, _, u, .non, r => by
    obtain rfl : u = Value.none := r
    exact ⟨[], .none, by simp⟩
  | _, _, u, .bl b, r => by
    obtain rfl : u = Value.bool b := r
    exact ⟨[], .bool b, by simp⟩
  | _, _, u, .int i, r => by
    obtain ⟨t, rfl⟩ := r
    exact ⟨[], .int i t, by simp⟩
  | _, _, u, .str x, r => by
    obtain ⟨t, rfl⟩ := r
    exact ⟨[], .str x t, by simp⟩
  | _, _, u, .lst (a := a) h1 h2, r => by
    obtain rfl : u = Value.ref a := r
    obtain ⟨its, rv, ⟨o, n, e1, e2, e3, e4⟩, hz⟩ := I.list h1
    obtain ⟨as, ra, na⟩ := Dts.reads I m h2 rv
    refine ⟨_, .list e1 e2 e4 (by simpa using ra), fun z => ?_⟩
    rcases List.mem_cons.mp z with z | z
    · exact not_sys I m e1 e4 z
    · exact na z
  | _, _, u, .tup (a := a) h1 h2, r => by
    obtain rfl : u = Value.ref a := r
    obtain ⟨its, rv, ⟨o, e1, e2, n, e4⟩, hz⟩ := I.tuple h1
    obtain ⟨as, ra, na⟩ := Dts.reads I m h2 rv
    exact ⟨_, .tuple e1 e2 e4 (by simpa using ra), na⟩
  | _, _, u, .dct (a := a) (kvs := ps) (ds := ds) h1 h2, r => by
    obtain rfl : u = Value.ref a := r
    obtain ⟨hz, hs, vs, kv, o, es, ep, e1, ex, e2, hk, hp, hn⟩ := dk_of I.hok h1
    obtain ⟨g1, g2⟩ := key_reads (h := s.heap) hp kv
    obtain ⟨bs, rb, nb⟩ := Dts.reads I m h2 g2
    have hl : (ps.map fun p => kD p.1).length = ds.length := by
      have z := h2.len
      rw [List.length_map] at z ⊢
      exact z
    refine ⟨a :: [] ++ bs, .dict e1 ex.1 e2 (by rw [zip_fst hl]; exact g1) (by rw [zip_snd hl]; exact rb), fun z => ?_⟩
    rcases List.mem_cons.mp z with z | z
    · rw [z] at hs
      simp at hs
    · exact nb z
theorem Dts.reads (I : Inv X pins σ H s) (m : M1 X.base) : ∀ {vs : List V} {ds : List PyData} {us : List Value}, Dts X.K H vs ds → Vals vs us → ∃ as, ReadsAll s.heap us ds as ∧ sysModules ∉ as
  | _, _, _, .nil, .nil => ⟨[], .nil, by simp⟩
  | _, _, _, .cons h1 h2, .cons r1 r2 => by
    obtain ⟨as, q1, n1⟩ := Dt.reads I m h1 r1
    obtain ⟨bs, q2, n2⟩ := Dts.reads I m h2 r2
    refine ⟨as ++ bs, .cons q1 q2, fun z => ?_⟩
    rcases List.mem_append.mp z with z | z
    · exact n1 z
    · exact n2 z
end
end

/-- the sizes of the parts of a text of data -/
def small : PyData → Prop := fun d => d.showable = true ∧ d.depth ≤ 64 ∧ d.shown.length ≤ sizeLine
/-- repr of data, where no guard stands -/
theorem call_reprD {X : Cx} {k : Nat} (hg : X.A.guards = some []) (hr : Room k X.A) (m : M1 X.base) :
    CallR X (.builtin "repr") (fun xs H Q => ∃ v d, xs = [v] ∧ Dt X.K H v d ∧ small d ∧ Q (.str d.shown) H) := by
  intro pins s σ H xs us Q I r h
  obtain ⟨v, d, rfl, hd, ⟨hs, hz, hl⟩, q⟩ := h
  obtain ⟨u, rfl, ru⟩ := vals1 r
  obtain ⟨as, rd, na⟩ := Dt.reads I m hd ru
  cases rd with
  | none => exact PySem.P.repr_of_none ⟨.str _, H, I.tok _, ⟨_, rfl⟩, by simpa only [PyData.shown] using q⟩
  | bool b => exact PySem.P.repr_of_bool ⟨.str _, H, I.tok _, ⟨_, rfl⟩, by simpa only [PyData.shown] using q⟩
  | int i t => exact PySem.P.repr_of_int (by simpa [PyData.showable] using hs) ⟨.str _, H, I.tok _, ⟨_, rfl⟩, by simpa only [PyData.shown] using q⟩
  | str x t => exact PySem.P.repr_of_str ⟨.str _, H, I.tok _, ⟨_, rfl⟩, by simpa only [PyData.shown] using q⟩ (by simpa only [PyData.shown] using hl)
  | list a1 a2 a3 a4 => exact repr_of_reads' (.list a1 a2 a3 a4) hs (fun _ => na) hg (by have := hr.un; omega) (fun _ _ e => e) (fun h' u tk hk => ⟨.str _, H, I.kept hk, ⟨_, rfl⟩, q⟩) hl
  | tuple a1 a2 a3 a4 => exact repr_of_reads' (.tuple a1 a2 a3 a4) hs (fun _ => na) hg (by have := hr.un; omega) (fun _ _ e => e) (fun h' u tk hk => ⟨.str _, H, I.kept hk, ⟨_, rfl⟩, q⟩) hl
  | dict a1 a2 a3 a4 a5 => exact repr_of_reads' (.dict a1 a2 a3 a4 a5) hs (fun _ => na) hg (by have := hr.un; omega) (fun _ _ e => e) (fun h' u tk hk => ⟨.str _, H, I.kept hk, ⟨_, rfl⟩, q⟩) hl

/-! ### a promise that is asked only where no guard stands -/
structure FnG (P : Program) (w : World) (K : PySem.W.Frag) (mg : Str → Option Value) (base : Heap) (C : CXT) (k : Nat) (f : Addr) (fd : FuncData) (ps : List Str) (sp : Sp) : Prop where
  arity : ∀ vs H Q E, sp vs H Q E → vs.length = ps.length
  go : ∀ {A : Around} {out : List Env} {s : Shared} {H : Hp} {args : Args} {us : List Value} {vs : List V} {Q : VK} {E : XK}, A.guards = some [] → Room k A → Env0 P w K mg base A out s H → BindsTo s fd args (ps.zip us) →
    Vals vs us → sp vs H Q E → codeAny (model P w) A (.call (.ref f) args) (CR C out P w H s Q E) s
theorem fnG_of {C : CXT} {P : Program} {w : World} {K : PySem.W.Frag} {mg : Str → Option Value} {base : Heap} {x qual : Str} {st : Stmt} {f : Addr} {fd : FuncData} {N ps : List Str} {k : Nat} {sp : Sp} (F : Fun K x qual st f fd) (S : FnScope N ps (defScope st))
    (ar : ∀ vs H Q E, sp vs H Q E → vs.length = ps.length)
    (body : ∀ (cdv : Value) (A : Around) (out : List Env) (s : Shared) (H : Hp) (vs : List V) (Q : VK) (E : XK), A.guards = some [] → Room k (A.deeper (envOfC qual (defScope st) s.heap.objs.size f cdv)) → PySem.W.codeIn K cdv qual = true → sp vs H Q E →
      ∃ t, PSs (cxOf C P w K mg base N qual (defScope st) f cdv A out s H E) (defBody st) t ∧ t { nx := fun _ H' => Q .non H', rt := Q } (start N vs) H) : FnG P w K mg base C (k + 1) f fd ps sp := by
  obtain ⟨oc, od, kV, doc, pm, an, cdv, ct, osl, e, lk, hcd⟩ := F.ex
  subst e
  refine ⟨ar, fun {A out s H args us vs Q E} hgu hr e0 hb r h => ?_⟩
  exact LamX.run_ofS lk hcd S hr e0 hb r (ar _ _ _ _ h) fun hr' => body cdv A out s H vs Q E hgu hr' hcd h

theorem fnG_of0 {P : Program} {w : World} {K : PySem.W.Frag} {mg : Str → Option Value} {base : Heap} {x qual : Str} {st : Stmt} {f : Addr} {fd : FuncData} {N ps : List Str} {k : Nat} {sp : Sp} (F : Fun K x qual st f fd) (S : FnScope N ps (defScope st))
    (ar : ∀ vs H Q E, sp vs H Q E → vs.length = ps.length)
    (body : ∀ (cdv : Value) (A : Around) (out : List Env) (s : Shared) (H : Hp) (vs : List V) (Q : VK) (E : XK), A.guards = some [] → Room k (A.deeper (envOfC qual (defScope st) s.heap.objs.size f cdv)) → PySem.W.codeIn K cdv qual = true → sp vs H Q E →
      ∃ t, PSs (cxOf CX0 P w K mg base N qual (defScope st) f cdv A out s H E).nox (defBody st) t ∧ t { nx := fun _ H' => Q .non H', rt := Q } (start N vs) H) : FnG P w K mg base CX0 (k + 1) f fd ps sp :=
  fnG_of F S ar fun cdv A out s H vs Q E h1 h2 h3 h4 => by
    obtain ⟨t, z, q⟩ := body cdv A out s H vs Q E h1 h2 h3 h4
    exact ⟨t, z.nox, q⟩

/-! ### the entry -/
/-- what is tracked where the law is called: the script, the tables of code objects -/
structure Fit (P : Program) (w : World) (K : PySem.W.Frag) (h : Heap) (cs : List (Addr × Addr)) (a : Addr) (ns : List Int) (H : Hp) : Prop where
  tabs : ∀ p ∈ cs, H p.2 = some (.tbl #[])
  scr : SqL K H a (ns.map V.int)
  held : HOk P w H h
  only : ∀ b u, H b = some u → (b = a ∧ K.lookup a = none ∧ ∃ o xs, u = .frz o (.lst xs)) ∨ ((∃ p ∈ cs, b = p.2) ∧ u = .tbl #[])
def isTab (cs : List (Addr × Addr)) (b : Addr) : Bool := cs.any fun p => p.2 == b
theorem isTab_mem {cs : List (Addr × Addr)} {b : Addr} (h : isTab cs b = true) : ∃ p ∈ cs, b = p.2 := by
  obtain ⟨p, hp, e⟩ := List.any_eq_true.mp h
  exact ⟨p, hp, (beq_iff_eq.mp e).symm⟩
theorem isTab_of {cs : List (Addr × Addr)} {p : Addr × Addr} (h : p ∈ cs) : isTab cs p.2 = true := List.any_eq_true.mpr ⟨p, h, beq_self_eq_true _⟩
/-- the heap as it is told at the entry -/
def entryH (t : Bool) (o : Obj) (ns : List Int) (cs : List (Addr × Addr)) (a : Addr) : Hp := fun b =>
  if isTab cs b = true then some (.tbl #[]) else if t = true ∧ b = a then some (.frz o (.lst (ns.map V.int))) else none
theorem fit_ex {P : Program} {w : World} {K : PySem.W.Frag} {h : Heap} {cs : List (Addr × Addr)} {a : Addr} {vs : List Value} {ns : List Int} (hK : K.In h) (hT : ∀ p ∈ cs, h.get? p.2 = some { cls := .none, data := .fields #[] })
    (ha : h.get? a = some { cls := .type "list", data := .seq vs.toArray }) (hi : IntsAre vs ns) (hl : ns.length ≤ sizeLine) : ∃ H, Fit P w K h cs a ns H := by
  have rv := vals_ints hi
  have nt : isTab cs a = false := by
    cases e : isTab cs a with
    | false => rfl
    | true =>
      obtain ⟨p, hp, e2⟩ := isTab_mem e
      have q := hT p hp
      rw [← e2, ha] at q
      cases q
  have hl2 : (ns.map V.int).length ≤ sizeLine := by rw [List.length_map]; exact hl
  cases hk : K.lookup a with
  | some o =>
    have q := hK a o hk
    rw [ha] at q
    have q2 := Option.some.inj q
    refine ⟨entryH false { cls := .type "list", data := .seq vs.toArray } ns cs a, fun p hp => if_pos (isTab_of hp), ?_, fun b u e => ?_, fun b u e => ?_⟩
    · refine Or.inr ⟨o, vs.toArray, 0, hk, by rw [← q2], by rw [← q2], by rw [← q2], ?_, by simpa using rv⟩
      rw [List.size_toArray, hi.length]
      exact hl
    all_goals
      unfold entryH at e
      by_cases t : isTab cs b = true
      · rw [if_pos t] at e
        obtain ⟨p, hp, e2⟩ := isTab_mem t
        cases e
        first
          | (rw [e2]; exact hT p hp)
          | exact Or.inr ⟨⟨p, hp, e2⟩, rfl⟩
      · rw [if_neg t, if_neg (fun z => Bool.false_ne_true z.1)] at e
        cases e
  | none =>
    refine ⟨entryH true { cls := .type "list", data := .seq vs.toArray } ns cs a, fun p hp => if_pos (isTab_of hp), ?_, fun b u e => ?_, fun b u e => ?_⟩
    · refine Or.inl (Or.inr ⟨{ cls := .type "list", data := .seq vs.toArray }, ?_⟩)
      unfold entryH
      rw [if_neg (by rw [nt]; decide), if_pos ⟨rfl, rfl⟩]
    all_goals
      unfold entryH at e
      by_cases t : isTab cs b = true
      · rw [if_pos t] at e
        obtain ⟨p, hp, e2⟩ := isTab_mem t
        cases e
        first
          | (rw [e2]; exact hT p hp)
          | exact Or.inr ⟨⟨p, hp, e2⟩, rfl⟩
      · rw [if_neg t] at e
        by_cases ba : b = a
        · rw [if_pos ⟨rfl, ba⟩] at e
          cases e
          first
            | (rw [ba]; exact ⟨ha, hl2, vs, _, rv, ha⟩)
            | exact Or.inl ⟨ba, hk, _, _, rfl⟩
        · rw [if_neg (fun z => ba z.2)] at e
          cases e
/-- the law's call, from its promise where no guard stands -/
theorem law_enter {P : Program} {w : World} {K : PySem.W.Frag} {mg mb : Str → Option Value} {C : CXT} {k : Nat} {fa a : Addr} {cs : List (Addr × Addr)} {fd : FuncData} {x : Str} {sp : Sp} {s1 : Shared} {vs : List Value} {ns : List Int}
    (hK : K.In s1.heap) (hG : s1.heap.Ns mainGlobals mg) (hB : s1.heap.Ns builtinsNs mb) (hBB : ∀ x : Str, x ≠ "__name__" → mb x = bootBuiltins x) (hL : s1.heap.NoLimit) (hg : s1.gens = #[])
    (hT : ∀ p ∈ cs, s1.heap.get? p.2 = some { cls := .none, data := .fields #[] }) (nT : ∀ p ∈ cs, K.lookup p.2 = none) (hC : ∀ p ∈ cs, PySem.W.CodeHd s1.heap p.1 p.2)
    (hM : ∃ (bm : Addr) (ob : Obj), mg "__builtins__" = some (.ref bm) ∧ bm ≠ builtinsNs ∧ s1.heap.get? bm = some ob ∧ ob.cls = .type "module" ∧ ob.dict = some builtinsNs ∧ ob.data = .plain)
    (hs : M1 s1.heap) (ha : s1.heap.get? a = some { cls := .type "list", data := .seq vs.toArray }) (hi : IntsAre vs ns) (hl : ns.length ≤ sizeLine) (hr : Room k callerA)
    (F : ∀ b : Heap, K.In b → b.Ns mainGlobals mg → M1 b → (∀ p ∈ cs, LamX.TabB b mg p.1 p.2) → FnG P w K mg b C k fa fd [x] sp) (bind : ∀ (s : Shared) (u : Value), BindsTo s fd ⟨[u], []⟩ [(x, u)])
    (hsp : ∀ H : Hp, (∀ p ∈ cs, H p.2 = some (.tbl #[])) → SqL K H a (ns.map V.int) → sp [.ref a] H (fun v _ => v = .bl true) E0)
    (hE : ∀ H e s', C [] H s1 E0 e s' → False) :
    codeAny (model P w) callerA (.call (.ref fa) ⟨[.ref a], []⟩) (fun r s' => r = .ok (.ret (.bool true)) ∧ OldK s1.heap s'.heap ∧ s'.os = s1.os ∧ AllBare s'.gens) s1 := by
  obtain ⟨H, ft⟩ := fit_ex (P := P) (w := w) hK hT ha hi hl
  -- an object of neither kind is not tracked
  have un : ∀ {b : Addr} {o : Obj}, s1.heap.get? b = some o → (∀ us n, o.data ≠ .seq us n) → o.data ≠ .fields #[] → H b = none := by
    intro b o e n1 n2
    cases q : H b with
    | none => rfl
    | some u =>
      exfalso
      rcases ft.only b u q with ⟨z, _⟩ | ⟨⟨p, hp, z⟩, _⟩
      · rw [z, ha] at e
        cases e
        exact n1 _ _ rfl
      · rw [z, hT p hp] at e
        cases e
        exact n2 rfl
  have inB : ∀ {b : Addr} {o : Obj}, s1.heap.get? b = some o → (∀ us n, o.data ≠ .seq us n) → o.data ≠ .fields #[] → (hidT s1.heap H).get? b = some o := fun e n1 n2 => hidT_get e (un e n1 n2)
  have nsB : ∀ {b : Addr} {m : Str → Option Value}, s1.heap.Ns b m → (hidT s1.heap H).Ns b m := by
    intro b m ⟨o, es, ep, e, d, r⟩
    refine ⟨o, es, ep, inB e (fun us n z => ?_) (fun z => ?_), d, r⟩ <;> rw [d] at z <;> cases z
  have kB : K.In (hidT s1.heap H) := fun b o e => by
    refine hidT_get (hK b o e) ?_
    cases q : H b with
    | none => rfl
    | some u =>
      exfalso
      rcases ft.only b u q with ⟨z, n, _⟩ | ⟨⟨p, hp, z⟩, _⟩
      · rw [z, n] at e
        cases e
      · rw [z, nT p hp] at e
        cases e
  have mB : M1 (hidT s1.heap H) := by
    obtain ⟨o, es, ep, e, d⟩ := hs
    refine ⟨o, es, ep, inB e (fun us n z => ?_) (fun z => ?_), d⟩ <;> rw [d] at z <;> cases z
  have tB : ∀ p ∈ cs, LamX.TabB (hidT s1.heap H) mg p.1 p.2 := fun p hp => by
    obtain ⟨o, us, file, tf, flags, tg, inF, text, tt, c1, c2, c3, c4, c5, c6, c7, c8, c9, c10⟩ := hC p hp
    obtain ⟨bm, ob, d1, d2, d3, d4, d5, d6⟩ := hM
    have tp := hT p hp
    refine ⟨⟨o, us, file, tf, flags, tg, inF, text, tt, inB c1 (fun us n z => ?_) (fun z => ?_), c2, c3, c4, c5, c6, c7, c8, c9, c10⟩, ⟨bm, ob, d1, d2, fun z => ?_, fun z => ?_, inB d3 (fun us n z => ?_) (fun z => ?_), d4, d5, d6⟩, fun z => ?_⟩
    · rw [c3] at z
      cases z
    · rw [c3] at z
      cases z
      simp at c4
    · obtain ⟨o2, es, ep, e, d, _⟩ := hG
      rw [z, e] at d3
      cases d3
      rw [d] at d6
      cases d6
    · rw [z, tp] at d3
      cases d3
      cases d6
    · rw [d6] at z
      cases z
    · rw [d6] at z
      cases z
    · obtain ⟨o2, es, ep, e, d, _⟩ := hG
      rw [z, tp] at e
      cases e
      cases d
  have e0 : Env0 P w K mg (hidT s1.heap H) callerA [] s1 H := {
    frames := rfl
    mod := ⟨kB, nsB hG, ⟨mb, nsB hB, hBB⟩, let ⟨mc, z1, z2⟩ := hL; ⟨mc, nsB z1, z2⟩⟩
    bs := fun b o e => of_hidT e
    bsz := Nat.le_of_eq (hidT_size _ _)
    funs := trivial
    frf := fun b hb => nomatch (show b ∈ ([] : List Addr) from hb)
    hok := ft.held
    bare := .of_eq hg }
  refine codeAny_mono ((F _ kB (nsB hG) mB tB).go (us := [.ref a]) (vs := [.ref a]) rfl hr e0 (bind s1 _) (.cons rfl .nil) (hsp H ft.tabs ft.scr)) fun r s' h => ?_
  match r, h with
  | .error e, h => exact (hE H e s' h).elim
  | .ok .next, h => exact h.elim
  | .ok .brk, h => exact h.elim
  | .ok .cont, h => exact h.elim
  | .ok (.ret u), ⟨v, H', os, bare, U, held', rv, ev⟩ =>
    have ev2 : v = .bl true := ev
    rw [ev2] at rv
    obtain rfl : u = Value.bool true := rv
    have tab' : ∀ p ∈ cs, ∃ more : Array Value, s'.heap.get? p.2 = some { cls := .none, data := .fields more } := fun p hp => by
      obtain ⟨more, z⟩ := U.tbls p.2 #[] (ft.tabs p hp)
      exact ⟨_, held' _ _ z⟩
    have old : ∀ b o, isTab cs b = false → s1.heap.get? b = some o → s'.heap.get? b = some o := fun b o nb e => by
      cases q : H b with
      | none => exact U.keep b o e q (fun z => nomatch (show b ∈ ([] : List Addr) from z)) (fun z => nomatch z)
      | some y =>
        rcases ft.only b y q with ⟨_, _, ob, xs, z⟩ | ⟨⟨p, hp, z⟩, _⟩
        · rw [z] at q
          have g1 := (ft.held b _ q).1
          have g2 := (held' b _ (U.frzs b ob _ q)).1
          rw [e] at g1
          cases g1
          exact g2
        · rw [z, isTab_of hp] at nb
          cases nb
    refine ⟨rfl, ⟨fun b o e => ?_, fun b o e => ?_⟩, os, bare⟩
    · cases nb : isTab cs b with
      | false => exact .inl (old b o nb e)
      | true =>
        obtain ⟨p, hp, z⟩ := isTab_mem nb
        obtain ⟨more, hm⟩ := tab' p hp
        rw [z] at e ⊢
        rw [hT p hp] at e
        cases e
        exact .inr (.inl ⟨((hC p hp).tab (hT p hp)).isCodeTable, rfl, #[], more, rfl, by rw [Array.empty_append]; exact hm⟩)
    · cases nb : isTab cs b with
      | false => exact ⟨o, old b o nb e⟩
      | true =>
        obtain ⟨p, hp, z⟩ := isTab_mem nb
        obtain ⟨more, hm⟩ := tab' p hp
        rw [z]
        exact ⟨_, hm⟩
end Vf

set_option maxRecDepth 100000
set_option maxHeartbeats 4000000
namespace Vf
open PySem PySem.Spec PyProof.Rows L2
def topS (i : Nat) : Stmt := PySem.Challenge.pw_nearcurves_k00_errors.main.body.getD i (.Pass ⟨0, 0, 0, 0⟩)
/-! ### the pen -/
def penL (l : Addr) (at_ dg ct fo : Int) : List (Key × V) := [(.inr "cells", .ref l), (.inr "at", .int at_), (.inr "digits", .int dg), (.inr "count", .int ct), (.inr "fold", .int fo)]
section
variable {l : Addr} {a d c f x : Int}
theorem pv1 : valV (penL l a d c f) (.inr "cells") = some (.ref l) := by kernel_rfl
theorem pv2 : valV (penL l a d c f) (.inr "at") = some (.int a) := by kernel_rfl
theorem pv3 : valV (penL l a d c f) (.inr "digits") = some (.int d) := by kernel_rfl
theorem pv4 : valV (penL l a d c f) (.inr "count") = some (.int c) := by kernel_rfl
theorem pv5 : valV (penL l a d c f) (.inr "fold") = some (.int f) := by kernel_rfl
theorem pp2 : putK (penL l a d c f) (.inr "at") (.int x) = penL l x d c f := by kernel_rfl
theorem pp3 : putK (penL l a d c f) (.inr "digits") (.int x) = penL l a x c f := by kernel_rfl
theorem pp4 : putK (penL l a d c f) (.inr "count") (.int x) = penL l a d x f := by kernel_rfl
theorem pp5 : putK (penL l a d c f) (.inr "fold") (.int x) = penL l a d c x := by kernel_rfl
theorem pm : mergeK [] [(.inr "cells", .ref l), (.inr "at", .int 0), (.inr "digits", .int 0), (.inr "count", .int 0), (.inr "fold", .int f)] = penL l 0 0 0 f := by kernel_rfl
end
/-- a pen at p that has been asked at most B times -/
structure PenC (at_ dg ct fo B : Int) : Prop where
  a0 : 0 ≤ at_
  d0 : 0 ≤ dg
  c0 : 0 ≤ ct
  cB : ct ≤ B
  f0 : 0 ≤ fo
  f1 : fo < 2147483587
def PenAt (H : Hp) (p l : Addr) (ns : List Int) (at_ dg ct fo : Int) : Prop := H p = some (.dK (penL l at_ dg ct fo)) ∧ H l = some (.lst (ns.map V.int)) ∧ ns.length ≤ 63
def Pen (H : Hp) (p l : Addr) (B : Int) : Prop := ∃ ns at_ dg ct fo, PenAt H p l ns at_ dg ct fo ∧ PenC at_ dg ct fo B
/-- all but p stands as it stood -/
def Kp (p : Addr) (H H' : Hp) : Prop := ∀ b o, b ≠ p → H b = some o → H' b = some o
theorem Kp.refl {p : Addr} {H : Hp} : Kp p H H := fun _ _ _ h => h
theorem Kp.trans {p : Addr} {H H1 H2 : Hp} (a : Kp p H H1) (b : Kp p H1 H2) : Kp p H H2 := fun c o n h => b c o n (a c o n h)
theorem Kp.of {p : Addr} {H H' : Hp} (s : Same H H') : Kp p H H' := fun b o _ h => s b o h
theorem same_upd {H : Hp} {p : Addr} {o : HO} (n : H p = none) : Same H (upd H p o) := fun b u e => by rw [upd_ne (ne_of_none e n)]; exact e
/-- the heap without p -/
def wo (p : Addr) (H : Hp) : Hp := fun b => if b = p then none else H b
theorem Kp.wo {p : Addr} {H H' : Hp} (k : Kp p H H') : Same (wo p H) (wo p H') := fun b o e => by
  unfold Vf.wo at e ⊢
  by_cases h : b = p
  · rw [if_pos h] at e
    cases e
  · rw [if_neg h] at e ⊢
    exact k b o h e
theorem wo_sub {p : Addr} {H : Hp} : Same (wo p H) H := fun b o e => by
  unfold Vf.wo at e
  by_cases h : b = p
  · rw [if_pos h] at e
    cases e
  · rw [if_neg h] at e
    exact e
theorem wo_at {p b : Addr} {H : Hp} {o : HO} (h : b ≠ p) (e : H b = some o) : wo p H b = some o := by
  unfold Vf.wo
  rw [if_neg h]
  exact e
theorem PenAt.ne {H : Hp} {p l : Addr} {ns : List Int} {a d c f : Int} (h : PenAt H p l ns a d c f) : l ≠ p := ne_of h.2.1 h.1 (by intro z; cases z)
theorem PenAt.same {H H' : Hp} {p l : Addr} {ns : List Int} {a d c f : Int} (h : PenAt H p l ns a d c f) (s : Same H H') : PenAt H' p l ns a d c f := ⟨s _ _ h.1, s _ _ h.2.1, h.2.2⟩
theorem Pen.same {H H' : Hp} {p l : Addr} {B : Int} (h : Pen H p l B) (s : Same H H') : Pen H' p l B := by
  obtain ⟨ns, a, d, c, f, h1, h2⟩ := h
  exact ⟨ns, a, d, c, f, h1.same s, h2⟩
theorem Pen.more {H : Hp} {p l : Addr} {B B' : Int} (h : Pen H p l B) (e : B ≤ B') : Pen H p l B' := by
  obtain ⟨ns, a, d, c, f, h1, h2⟩ := h
  exact ⟨ns, a, d, c, f, h1, h2.a0, h2.d0, h2.c0, Int.le_trans h2.cB e, h2.f0, h2.f1⟩
theorem Pen.there {H : Hp} {p l : Addr} {B : Int} (h : Pen H p l B) : ∃ o, H p = some o := by
  obtain ⟨ns, a, d, c, f, h1, h2⟩ := h
  exact ⟨_, h1.1⟩
theorem PenAt.put {H : Hp} {p l : Addr} {ns : List Int} {a d c f a' d' c' f' : Int} (h : PenAt H p l ns a d c f) : PenAt (upd H p (.dK (penL l a' d' c' f'))) p l ns a' d' c' f' :=
  ⟨upd_same, by rw [upd_ne h.ne]; exact h.2.1, h.2.2⟩
theorem kp_upd {H : Hp} {p : Addr} {o : HO} : Kp p H (upd H p o) := fun b u n e => by rw [upd_ne n]; exact e

def spPen (K : PySem.W.Frag) : Sp := fun vs H Q _ => ∃ (a : Addr) (ns : List Int), vs = [.ref a] ∧ SqL K H a (ns.map V.int) ∧ ns.length ≤ 63 ∧ ∀ (p l : Addr) (H' : Hp), Same H H' → H p = none → H l = none → Pen H' p l 0 → Q (.ref p) H'
def spDraw : Sp := fun vs H Q _ => ∃ (p l : Addr) (B many : Int), vs = [.ref p, .int many] ∧ Pen H p l B ∧ B ≤ 1000000000 ∧ 0 < many ∧ many < 1000000 ∧
  ∀ (z : Int) (H' : Hp), 0 ≤ z → z < many → Pen H' p l (B + 1) → Kp p H H' → Q (.int z) H'
def spPick : Sp := fun vs H Q _ => ∃ (p l s : Addr) (B : Int) (xs : List V), vs = [.ref p, .ref s] ∧ Pen H p l B ∧ B ≤ 1000000000 ∧ H s = some (.lst xs) ∧ s ≠ p ∧ 0 < xs.length ∧ xs.length < 1000000 ∧
  ∀ (x : V) (H' : Hp), x ∈ xs → Pen H' p l (B + 1) → Kp p H H' → Q x H'
def spFar : Sp := fun vs H Q _ => ∃ (p l : Addr) (B : Int), vs = [.ref p] ∧ Pen H p l B ∧ B ≤ 100000000 ∧
  ∀ (z : Int) (H' : Hp), -1000000000000000000 < z → z < 1000000000000000000 → Pen H' p l (B + 8) → Kp p H H' → Q (.int z) H'
/-- built-in names that the text leaves alone -/
structure Bi (mg : Str → Option Value) : Prop where
  int : mg "int" = none
  list : mg "list" = none
  len : mg "len" = none
  range : mg "range" = none
/-- a def of the text that raises nothing -/
structure Df (P : Program) (w : World) (K : PySem.W.Frag) (mg : Str → Option Value) (base : Heap) (x : Str) (k : Nat) (ps : List Str) (sp : Sp) where
  f : Addr
  fd : FuncData
  m : mg x = some (.ref f)
  kp : PySem.W.keepIn K (.ref f) = true
  b : Binds K fd ps []
  ok : FnOk P w K mg base CX0 k f fd ps sp

abbrev sPen : Stmt := topS 20
abbrev sDraw : Stmt := topS (20 + 1)
abbrev sPick : Stmt := topS (20 + 2)
section
variable {P : Program} {w : World} {K : PySem.W.Frag} {mg : Str → Option Value} {base : Heap}
theorem scPen : FnScope ["_law_script", "_law_fold", "_law_cell"] ["_law_script"] (defScope sPen) := ⟨rfl, rfl, rfl, by decide +kernel, rfl, by decide +kernel, by decide +kernel⟩
theorem ok_pen {f : Addr} {fd : FuncData} (F : Fun K "_law_pen" "_law_pen" sPen f fd) (T : Bi mg) : FnOk P w K mg base CX0 1 f fd ["_law_script"] (spPen K) := by
  refine F.ok scPen (fun vs H Q E h => ?_) (fun cdv A outer s H vs Q E hr h => ?_)
  · obtain ⟨a, ns, rfl, _⟩ := h
    rfl
  · obtain ⟨a, ns, rfl, hS, hl, k⟩ := h
    refine ⟨_, (pss_cons (ps_set (i := 1) scPen.nd rfl (Or.inl rfl) pe_int)
      (pss_cons (ps_for PassesOwn.never rfl (pi_list (pv 0)) (pg_name (i := 2) scPen.nd rfl (Or.inl rfl))
        (pss_one (ps_set (i := 1) scPen.nd rfl (Or.inl rfl) (pe_op op_mod (pe_callTy call_int1 (by rfl) T.int (by decide +kernel) (pa_cons (pe_op op_add (pe_op op_mul (pv 1) pe_int) (pv 2)) pa_nil)) pe_int))))
      (pss_one (ps_ret (pe_disp (pps_cons pe_str (pe_callTy call_list_of (by rfl) T.list (by decide +kernel) (pa_cons (pv 0) pa_nil)) (pps_cons pe_str pe_int (pps_cons pe_str pe_int (pps_cons pe_str pe_int (pps_cons pe_str (pv 1) pps_nil))))) (by rfl) (by rfl) (fun z => by cases z) (by decide)))))), ?_⟩
    refine ⟨_, rfl, a, rfl, ⟨_, hS⟩, for_list (K := K) (a := a) (xs := ns.map V.int) (fun i σ H2 => H2 = H ∧ ∃ (z : Int) (v : Option V), σ = [some (.ref a), some (.int z), v] ∧ 0 ≤ z ∧ z < 1000000007)
      ⟨rfl, 0, none, rfl, by decide, by decide⟩ (fun i σ H2 _ ⟨e, _⟩ => by rw [e]; exact hS) ?_ ?_⟩
    · rintro i y σ H2 hi ⟨rfl, z, v, rfl, h0, h1⟩
      obtain ⟨n, rfl⟩ : ∃ n, y = V.int n := by
        rw [List.getElem?_map] at hi
        cases e : ns[i]? with
        | none =>
          rw [e] at hi
          cases hi
        | some n =>
          rw [e] at hi
          exact ⟨n, (Option.some.inj hi).symm⟩
      refine ⟨_, rfl, _, _, rfl, rfl, .inl ⟨by omega, by omega⟩, _, rfl, _, _, rfl, rfl, .inl ⟨_, rfl, _, _, rfl, rfl, (by show (0 : Int) < 1000000007; decide), ?_⟩⟩
      exact ⟨rfl, _, _, rfl, Int.emod_nonneg _ (by decide), Int.emod_lt_of_pos _ (by decide)⟩
    · rintro σ H2 ⟨rfl, z, v, rfl, h0, h1⟩
      intro p np
      refine ⟨_, rfl, a, _, rfl, .inl ((same_upd np).seq hS), fun l nl => ?_⟩
      refine ⟨_, rfl, ?_⟩
      have npl : p ≠ l := ne_of_none upd_same nl
      refine ⟨by rw [upd_ne npl]; exact upd_same, [(.inr "cells", .ref l), (.inr "at", .int 0), (.inr "digits", .int 0), (.inr "count", .int 0), (.inr "fold", .int z)], rfl, (by show 5 ≤ 15; decide), ?_⟩
      rw [pm]
      have nl2 : H2 l = none := by
        have q := nl
        rw [upd_ne npl.symm] at q
        exact q
      refine k p l _ (fun b o e => ?_) np nl2 ⟨ns, 0, 0, 0, z, ⟨upd_same, by rw [upd_ne npl.symm]; exact upd_same, hl⟩, by decide, by decide, by decide, by decide, h0, by omega⟩
      rw [upd_ne (ne_of_none e np), upd_ne (ne_of_none e nl2), upd_ne (ne_of_none e np)]
      exact e
theorem scDraw : FnScope ["_law_pen_here", "_law_many", "_law_cell", "_law_digit", "_law_mixed"] ["_law_pen_here", "_law_many"] (defScope sDraw) := ⟨rfl, rfl, rfl, by decide +kernel, rfl, by decide +kernel, by decide +kernel⟩
theorem ok_draw {f : Addr} {fd : FuncData} (F : Fun K "_law_draw" "_law_draw" sDraw f fd) (T : Bi mg) : FnOk P w K mg base CX0 1 f fd ["_law_pen_here", "_law_many"] spDraw := by
  refine F.ok scDraw (fun vs H Q E h => ?_) (fun cdv A outer s H vs Q E hr h => ?_)
  · obtain ⟨p, l, B, m, rfl, _⟩ := h
    rfl
  · obtain ⟨p, l, B, m, rfl, ⟨ns, a0, d0, c0, f0, hP, hC⟩, hB, hm0, hm1, k⟩ := h
    have hu := hu_of hr
    have small : ∀ {l : Addr} {a d c f : Int}, (penL l a d c f).length < sizeLine := by intros; show 5 < sizeLine; decide
    refine ⟨_, (pss_cons (ps_dput hu (pv 0) pe_str (pe_op op_add (pe_dget hu (pv 0) pe_str (fun _ _ => rfl)) pe_int) rfl)
  (C8.pss_cut (ps_if (PW.pt (pw_and (pt_cmpR op_eq (pe_dget hu (pv 0) pe_str (fun _ _ => rfl)) pe_int (nomark _)) (pw_and1 (pt_cmpR op_lt (pe_dget hu (pv 0) pe_str (fun _ _ => rfl)) (pe_callB call_len_seq (by rfl) T.len (by decide +kernel) (pa_cons (pe_dget hu (pv 0) pe_str (fun _ _ => rfl)) pa_nil)) (nomark _)))))
    (pss_cons (ps_set (i := 2) scDraw.nd rfl (Or.inl rfl) (pe_ix ix_list (pe_dget hu (pv 0) pe_str (fun _ _ => rfl)) (pe_dget hu (pv 0) pe_str (fun _ _ => rfl)) (fun _ _ => rfl)))
    (pss_cons (ps_dput hu (pv 0) pe_str (pe_op op_add (pe_dget hu (pv 0) pe_str (fun _ _ => rfl)) pe_int) rfl)
    (pss_one (ps_if (pt_cmpR op_ge (pv 2) (pe_op op_pow pe_int pe_int) (nomark _))
      (pss_one (ps_dput hu (pv 0) pe_str (pe_op op_sub (pv 2) (pe_op op_pow pe_int pe_int)) rfl))
      (pss_one (ps_dput hu (pv 0) pe_str (pe_op op_mod (pe_callTy call_int1 (by rfl) T.int (by decide +kernel) (pa_cons (pe_op op_add (pe_op op_mul (pe_dget hu (pv 0) pe_str (fun _ _ => rfl)) pe_int) (pv 2)) pa_nil)) pe_int) rfl))))))
    pss_nil)
  (pss_cons (ps_if (pt_cmpR op_gt (pe_dget hu (pv 0) pe_str (fun _ _ => rfl)) pe_int (nomark _))
    (pss_cons (ps_set (i := 3) scDraw.nd rfl (Or.inl rfl) (pe_op op_mod (pe_callTy call_int1 (by rfl) T.int (by decide +kernel) (pa_cons (pe_dget hu (pv 0) pe_str (fun _ _ => rfl)) pa_nil)) (pv 1)))
    (pss_cons (ps_dput hu (pv 0) pe_str (pe_op op_fdiv (pe_dget hu (pv 0) pe_str (fun _ _ => rfl)) (pv 1)) rfl)
    (pss_one (ps_ret (pv 3)))))
    pss_nil)
  (pss_cons (ps_set (i := 4) scDraw.nd rfl (Or.inl rfl) (pe_op op_add (pe_op op_add (pe_dget hu (pv 0) pe_str (fun _ _ => rfl)) (pe_op op_mul (pe_dget hu (pv 0) pe_str (fun _ _ => rfl)) pe_int)) pe_int))
  (pss_one (ps_ret (pe_op op_mod (pe_op op_fdiv (pe_callTy call_int1 (by rfl) T.int (by decide +kernel) (pa_cons (pe_op op_mod (pe_op op_pow (pv 4) pe_int) pe_int) pa_nil)) pe_int) (pv 1)))))))), ?_⟩
    -- count
    refine ⟨_, rfl, p, .int c0, rfl, ?_, _, _, rfl, rfl, _, rfl, p, _, rfl, DPut.k (k := Sum.inr "count") hP.1 small, ?_⟩
    · have q := DGet.k (k := (Sum.inr "count" : Key)) hP.1
      rw [pv4] at q
      exact q
    rw [pp4]
    have hP1 := hP.put (a' := a0) (d' := d0) (c' := c0 + 1) (f' := f0)
    generalize hH1 : upd H p (.dK (penL l a0 d0 (c0 + 1) f0)) = H1 at hP1
    have k1 : Kp p H H1 := by rw [← hH1]; exact kp_upd
    clear hH1
    -- the cut: a pen again
    refine ⟨fun σ H2 => ∃ (v2 : Option V) (a d c f : Int), σ = [some (.ref p), some (.int m), v2, none, none] ∧ PenAt H2 p l ns a d c f ∧ PenC a d c f (B + 1) ∧ Kp p H H2, ?_, ?_⟩
    · have g3 : DGet H1 p (kV (Sum.inr "digits")) (some (.int d0)) := by
        have q := DGet.k (k := (Sum.inr "digits" : Key)) hP1.1
        rw [pv3] at q
        exact q
      have g2 : DGet H1 p (kV (Sum.inr "at")) (some (.int a0)) := by
        have q := DGet.k (k := (Sum.inr "at" : Key)) hP1.1
        rw [pv2] at q
        exact q
      have g1 : DGet H1 p (kV (Sum.inr "cells")) (some (.ref l)) := by
        have q := DGet.k (k := (Sum.inr "cells" : Key)) hP1.1
        rw [pv1] at q
        exact q
      refine ⟨_, rfl, p, _, rfl, g3, rfl, _, rfl, ?_⟩
      have stay : ∃ (v2 : Option V) (a d c f : Int), start ["_law_pen_here", "_law_many", "_law_cell", "_law_digit", "_law_mixed"] [V.ref p, V.int m] = [some (.ref p), some (.int m), v2, none, none] ∧ PenAt H1 p l ns a d c f ∧ PenC a d c f (B + 1) ∧ Kp p H H1 :=
        ⟨none, a0, d0, c0 + 1, f0, rfl, hP1, ⟨hC.a0, hC.d0, by have := hC.c0; omega, by have := hC.cB; omega, hC.f0, hC.f1⟩, k1⟩
      by_cases hd : d0 = 0
      · rw [decide_eq_true (by rw [hd])]
        refine iteT ?_
        refine ⟨_, rfl, p, _, rfl, g2, _, rfl, p, _, rfl, g1, l, _, rfl, .inl (SqL.of hP1.2.1), _, _, rfl, rfl, _, rfl, ?_⟩
        rw [List.length_map]
        by_cases ha : a0 < (ns.length : Int)
        · rw [decide_eq_true ha]
          refine iteT ?_
          have han : a0.toNat < ns.length := by have := hC.a0; omega
          have hat : (ns.map V.int)[a0.toNat]? = some (V.int ns[a0.toNat]) := by
            rw [List.getElem?_map, List.getElem?_eq_getElem han]
            rfl
          generalize ns[a0.toNat] = z at hat
          refine ⟨_, rfl, p, _, rfl, g1, _, rfl, p, _, rfl, g2, l, _, a0, .int z, rfl, rfl, SqL.of hP1.2.1, at_of (j := a0.toNat) (by have := hC.a0; omega) hat, ?_⟩
          refine ⟨_, rfl, p, _, rfl, g2, _, _, rfl, rfl, _, rfl, p, _, rfl, DPut.k (k := Sum.inr "at") hP1.1 small, ?_⟩
          rw [pp2]
          have hP2 := hP1.put (a' := a0 + 1) (d' := d0) (c' := c0 + 1) (f' := f0)
          generalize hH2 : upd H1 p (.dK (penL l (a0 + 1) d0 (c0 + 1) f0)) = H2 at hP2
          have k2 : Kp p H H2 := by rw [← hH2]; exact k1.trans kp_upd
          clear hH2
          refine ⟨_, rfl, _, _, rfl, rfl, ⟨by decide, by decide, by decide⟩, _, _, rfl, rfl, _, rfl, ?_⟩
          refine ite2 (fun hz => ?_) (fun hz => ?_)
          · have hz2 : (10 : Int) ^ (18 : Int).toNat ≤ z := of_decide_eq_true hz
            refine ⟨_, rfl, _, _, rfl, rfl, ⟨by decide, by decide, by decide⟩, _, _, rfl, rfl, _, rfl, p, _, rfl, DPut.k (k := Sum.inr "digits") hP2.1 small, ?_⟩
            rw [pp3]
            exact ⟨_, a0 + 1, _, c0 + 1, f0, rfl, hP2.put, ⟨by have := hC.a0; omega, by omega, by have := hC.c0; omega, by have := hC.cB; omega, hC.f0, hC.f1⟩, k2.trans kp_upd⟩
          · refine ⟨_, rfl, p, .int f0, rfl, ?_, _, _, rfl, rfl, .inl ⟨?_, ?_⟩, _, rfl, _, _, rfl, rfl, .inl ⟨_, rfl, _, _, rfl, rfl, (by show (0 : Int) < 2147483587; decide), _, rfl, p, _, rfl, DPut.k (k := Sum.inr "fold") hP2.1 small, ?_⟩⟩
            · have q := DGet.k (k := (Sum.inr "fold" : Key)) hP2.1
              rw [pv5] at q
              exact q
            · have := hC.f0; omega
            · have := hC.f1; omega
            rw [pp5]
            exact ⟨_, a0 + 1, d0, c0 + 1, _, rfl, hP2.put, ⟨by have := hC.a0; omega, hC.d0, by have := hC.c0; omega, by have := hC.cB; omega, Int.emod_nonneg _ (by decide), Int.emod_lt_of_pos _ (by decide)⟩, k2.trans kp_upd⟩
        · rw [decide_eq_false ha]
          refine iteF ?_
          exact stay
      · rw [decide_eq_false (fun z => hd (by have z2 := V.int.inj z; exact z2))]
        refine iteF ?_
        exact stay
    · rintro σ H2 ⟨v2, a, d, c, f, rfl, hP2, hC2, k2⟩
      have g3 : DGet H2 p (kV (Sum.inr "digits")) (some (.int d)) := by
        have q := DGet.k (k := (Sum.inr "digits" : Key)) hP2.1
        rw [pv3] at q
        exact q
      refine ⟨_, rfl, p, _, rfl, g3, _, _, rfl, rfl, _, rfl, ?_⟩
      refine ite2 (fun hz => ?_) (fun hz => ?_)
      · have hz2 : 0 < d := of_decide_eq_true hz
        refine ⟨_, rfl, p, _, rfl, g3, .inl ⟨_, rfl, _, rfl, _, _, rfl, rfl, hm0, ?_⟩⟩
        refine ⟨_, rfl, p, _, rfl, g3, _, rfl, _, _, rfl, rfl, ⟨hm0, by omega⟩, _, rfl, p, _, rfl, DPut.k (k := Sum.inr "digits") hP2.1 small, ?_⟩
        rw [pp3]
        exact ⟨_, rfl, k _ _ (Int.emod_nonneg _ (by omega)) (Int.emod_lt_of_pos _ hm0) ⟨ns, a, _, c, f, hP2.put, hC2.a0, Int.ediv_nonneg hC2.d0 (by omega), hC2.c0, hC2.cB, hC2.f0, hC2.f1⟩ (k2.trans kp_upd)⟩
      · refine ⟨_, rfl, p, .int f, rfl, ?_, _, rfl, p, .int c, rfl, ?_, _, _, rfl, rfl, .inl ⟨?_, ?_⟩, _, _, rfl, rfl, _, _, rfl, rfl, ?_⟩
        · have q := DGet.k (k := (Sum.inr "fold" : Key)) hP2.1
          rw [pv5] at q
          exact q
        · have q := DGet.k (k := (Sum.inr "count" : Key)) hP2.1
          rw [pv4] at q
          exact q
        · have := hC2.c0; omega
        · have := hC2.cB; omega
        have b1 := hC2.c0
        have b2 := hC2.cB
        have b3 := hC2.f0
        have b4 := hC2.f1
        refine ⟨_, rfl, _, _, rfl, rfl, ⟨by decide, by decide, ?_⟩, _, _, rfl, rfl, (by show (0 : Int) < 2305843009213693951; decide), .inl ⟨_, rfl, _, _, rfl, rfl, ⟨by decide, by decide⟩, _, rfl, _, _, rfl, rfl, hm0, ?_⟩⟩
        · show (f + c * 7907 + 43).natAbs < 2 ^ 64
          omega
        exact k _ _ (Int.emod_nonneg _ (by omega)) (Int.emod_lt_of_pos _ hm0) ⟨ns, a, d, c, f, hP2, hC2⟩ k2
theorem scPick : FnScope ["_law_pen_here", "_law_some"] ["_law_pen_here", "_law_some"] (defScope sPick) := ⟨rfl, rfl, rfl, by decide +kernel, rfl, by decide +kernel, by decide +kernel⟩
theorem ok_pick {f : Addr} {fd : FuncData} (F : Fun K "_law_pick" "_law_pick" sPick f fd) (T : Bi mg) (G : Df P w K mg base "_law_draw" 1 ["_law_pen_here", "_law_many"] spDraw) : FnOk P w K mg base CX0 2 f fd ["_law_pen_here", "_law_some"] spPick := by
  refine F.ok scPick (fun vs H Q E h => ?_) (fun cdv A outer s H vs Q E hr h => ?_)
  · obtain ⟨p, l, s, B, xs, rfl, _⟩ := h
    rfl
  · obtain ⟨p, l, s, B, xs, rfl, hP, hB, hs, hne, h0, h1, k⟩ := h
    refine ⟨_, (pss_one (ps_ret (pe_ix ix_list (pv 1) (pe_call G.ok hr rfl G.m G.kp G.b .nil pass0 (pa_cons (pv 0) (pa_cons (pe_callB call_len_seq (by rfl) T.len (by decide +kernel) (pa_cons (pv 1) pa_nil)) pa_nil))) (fun _ _ => rfl)))), ?_⟩
    refine ⟨_, rfl, _, rfl, _, rfl, s, _, rfl, .inl (SqL.of hs), p, l, B, _, rfl, hP, hB, by omega, by omega, fun z H' z0 z1 hP' kp => ?_⟩
    have hzn : z.toNat < xs.length := by omega
    exact ⟨s, xs, z, xs[z.toNat], rfl, rfl, SqL.of (kp _ _ hne hs), at_of (j := z.toNat) (by omega) (List.getElem?_eq_getElem hzn), k _ _ (List.getElem_mem hzn) hP' kp⟩
end
abbrev sFar : Stmt := topS 23
section
variable {P : Program} {w : World} {K : PySem.W.Frag} {mg : Str → Option Value} {base : Heap}
theorem scFar : FnScope ["_law_pen_here", "_law_found", "_law_k"] ["_law_pen_here"] (defScope sFar) := ⟨rfl, rfl, rfl, by decide +kernel, rfl, by decide +kernel, by decide +kernel⟩
theorem pow1000 {z d : Int} {j : Nat} (h0 : 0 ≤ z) (h1 : z < 1000 ^ j) (d0 : 0 ≤ d) (d1 : d < 1000) : 0 ≤ z * 1000 + d ∧ z * 1000 + d < 1000 ^ (j + 1) := by
  refine ⟨by omega, ?_⟩
  rw [Int.pow_succ]
  omega
theorem pow_le18 {z : Int} {j : Nat} (hj : j ≤ 6) (h1 : z < 1000 ^ j) : z < 1000000000000000000 := by
  have hk : j = 0 ∨ j = 1 ∨ j = 2 ∨ j = 3 ∨ j = 4 ∨ j = 5 ∨ j = 6 := by omega
  rcases hk with h | h | h | h | h | h | h <;> rw [h] at h1 <;> omega
theorem ok_far {f : Addr} {fd : FuncData} (F : Fun K "_law_far" "_law_far" sFar f fd) (T : Bi mg) (G_law_draw : Df P w K mg base "_law_draw" 1 ["_law_pen_here", "_law_many"] spDraw) (G_law_pick : Df P w K mg base "_law_pick" 2 ["_law_pen_here", "_law_some"] spPick) :
    FnOk P w K mg base CX0 3 f fd ["_law_pen_here"] spFar := by
  refine F.ok scFar (fun vs H Q E h => ?_) (fun cdv A outer s H vs Q E hr h => ?_)
  · obtain ⟨p, l, B, rfl, _⟩ := h
    rfl
  · obtain ⟨p, l, B, rfl, hP, hB, k⟩ := h
    have hr1 := hr.mono (by decide : 1 ≤ 2)
    refine ⟨_, (pss_cons (ps_set (i := 1) scFar.nd rfl (Or.inl rfl) pe_int)
      (pss_cons (ps_for PassesOwn.never rfl (pi_range1 (by rfl) T.range (pa_cons (pe_call G_law_pick.ok hr rfl G_law_pick.m G_law_pick.kp G_law_pick.b .nil pass0 (pa_cons (pv 0) (pa_cons (pe_lst (pa_cons pe_int (pa_cons pe_int (pa_cons pe_int (pa_cons pe_int (pa_cons pe_int pa_nil)))))) pa_nil))) pa_nil)) (pg_name (i := 2) scFar.nd rfl (Or.inl rfl))
        (pss_one (ps_set (i := 1) scFar.nd rfl (Or.inl rfl) (pe_op op_add (pe_op op_mul (pv 1) pe_int) (pe_call G_law_draw.ok hr1 rfl G_law_draw.m G_law_draw.kp G_law_draw.b .nil pass0 (pa_cons (pv 0) (pa_cons pe_int pa_nil)))))))
      (pss_one (ps_ret (pe_ifExp (pt_cmpR op_gt (pe_call G_law_draw.ok hr1 rfl G_law_draw.m G_law_draw.kp G_law_draw.b .nil pass0 (pa_cons (pv 0) (pa_cons pe_int pa_nil))) pe_int (nomark _)) (pv 1) (pe_un un_neg (pv 1))))))), ?_⟩
    refine ⟨_, rfl, (by decide), fun q nq => ?_⟩
    have hpq : q ≠ p := by
      obtain ⟨o, e⟩ := hP.there
      exact (ne_of_none e nq).symm
    refine ⟨p, l, q, B, _, rfl, hP.same (same_upd nq), by omega, upd_same, hpq, by decide, by decide, fun x H1 hx hP1 k1 => ?_⟩
    have kk1 : Kp p H H1 := (Kp.of (same_upd nq)).trans k1
    obtain ⟨j, rfl, hj⟩ : ∃ j : Nat, x = V.int j ∧ j ≤ 6 := by
      simp only [List.mem_cons, List.not_mem_nil, or_false] at hx
      rcases hx with h | h | h | h | h
      · exact ⟨0, h, by decide⟩
      · exact ⟨1, h, by decide⟩
      · exact ⟨1, h, by decide⟩
      · exact ⟨2, h, by decide⟩
      · exact ⟨6, h, by decide⟩
    refine ⟨_, rfl, by omega, by omega, for_range (lo := 0) (n := (j : Int).toNat) (fun i σ H2 => ∃ (z : Int) (v : Option V), σ = [some (.ref p), some (.int z), v] ∧ 0 ≤ z ∧ z < 1000 ^ i ∧ Pen H2 p l (B + 1 + i) ∧ Kp p H H2)
      ⟨0, none, rfl, by decide, by decide, hP1.more (by omega), kk1⟩ ?_ ?_⟩
    · rintro i σ H2 hi ⟨z, v, rfl, h0, h1, hP2, k2⟩
      have hi6 : i < 6 := by omega
      have hz := pow_le18 (by omega) h1
      refine ⟨_, rfl, _, _, rfl, rfl, .inl ⟨by omega, by omega⟩, _, rfl, p, l, _, _, rfl, hP2, by omega, by decide, by decide, fun d H3 d0 d1 hP3 k3 => ?_⟩
      obtain ⟨g1, g2⟩ := pow1000 h0 h1 d0 d1
      exact ⟨_, _, rfl, rfl, _, _, rfl, g1, g2, hP3.more (by omega), k2.trans k3⟩
    · rintro σ H2 ⟨z, v, rfl, h0, h1, hP2, k2⟩
      have hz := pow_le18 (by omega) h1
      refine ⟨_, rfl, p, l, _, _, rfl, hP2, by omega, by decide, by decide, fun d H3 d0 d1 hP3 k3 => ⟨_, _, rfl, rfl, _, rfl, ?_⟩⟩
      refine ite2 (fun _ => ?_) (fun _ => ?_)
      · exact ⟨_, rfl, k _ _ (by omega) hz (hP3.more (by omega)) (k2.trans k3)⟩
      · exact ⟨_, rfl, _, rfl, k _ _ (by omega) (by omega) (hP3.more (by omega)) (k2.trans k3)⟩
end
end Vf

set_option maxRecDepth 100000
set_option maxHeartbeats 4000000
/-! exceptions held as values -/
namespace Vf
open PySem PySem.Spec PyProof.Rows L2
section
open PySem.W PySem.Calls
variable {prog : Program} {w : World} {K : Frag} {x D : Addr} {ox : Obj} {od : Option Obj}
theorem bound_any {C : Addr} {nm : Str} {a g : Value} (c : (clsIn K C).isSome = true) (fa : findIn K (.ref C) nm = some (some a)) (fg : specialIn K a "__get__" = some (some g)) (ft : takesIn K a = some true) : findObj K C od nm = some (.bind g a) := by
  obtain ⟨cd, c⟩ := Option.isSome_iff_exists.mp c
  simp only [findObj, c, fa, fg, ft, Option.bind_some]
/-- what isinstance asks of the class of an exception -/
structure XC (K : Frag) (D : Addr) : Prop where
  ga : findIn K (.ref D) "__getattribute__" = some (some (.builtin "BaseException.__getattribute__"))
  gg : findIn K (.ref D) "__getattr__" = some none
  sb : subIn K (.ref D) (.type "BaseException") = some true
  hd : hasDictIn K D = true
  ca : findIn K (.ref D) "__class__" = some (some (.builtin "object.__class__"))
  cn : specialIn K (.builtin "object.__class__") "__get__" = some (some (.builtin "getset_descriptor.__get__"))
  ct : takesIn K (.builtin "object.__class__") = some true
  mo : mroIn K D (.type "object") = some true
theorem XC.cls {K : Frag} {D : Addr} (T : XC K D) : (clsIn K D).isSome = true := by
  obtain ⟨cd, e, _⟩ := any_some T.hd
  simp only [e, Option.isSome_some]
/-- its class, asked of the exception itself, whatever its dict holds -/
theorem own_class {A : Around} {E : Value → Shared → Prop} {s : Shared} {Q : Option Value → Shared → Prop} (T : XC K D) (X : K.In s.heap) (I : InstAt s.heap x ox D od) (q : Q (some (.ref D)) { s with toks := s.toks + 1 }) :
    wpAny (model prog w) A (getAttr? (.ref x) "__class__") Q E s := by
  obtain ⟨hp, gs, dr, tk, os⟩ := s
  have l0 := I.type (M := model prog w)
  have l1 := looks_findIn (M := model prog w) X T.ga
  have l2 := looks_findIn (M := model prog w) X T.gg
  have l3 := looks_find (M := model prog w) X I (bound_any (od := od) T.cls T.ca T.cn T.ct)
  have y1 : (onTheHeap (Value.ref D) && Value.builtin "BaseException.__getattribute__" == Value.builtin "object.__getattribute__") = false := by
    rw [show (Value.builtin "BaseException.__getattribute__" == Value.builtin "object.__getattribute__") = false from by decide +kernel, Bool.and_false]
  unfold getAttr?
  unfold getAttrBy?
  unfold getAttrBy
  refine wpAny_bind (wpAny_mkText (wpAny_bind ?_))
  refine wpAny_attempt (wpAny_holding (wpAny_bind (l0.at ?_)))
  refine wpAny_bind (l1.at ?_)
  show wpAny _ _ (if (onTheHeap (Value.ref D) && Value.builtin "BaseException.__getattribute__" == Value.builtin "object.__getattribute__") = true then _ else _) _ _ _
  rw [y1]
  rw [if_neg Bool.false_ne_true]
  unfold getAttrByItsOwn
  unfold hookBefore
  refine wpAny_bind ?_
  rw [if_pos (show onTheHeap (Value.ref D) = true from rfl)]
  refine l2.at (wpAny_bind (wpAny_attempt (wpAny_holding ?_)))
  unfold callGetattribute
  rw [show (false && onTheHeap (Value.builtin "BaseException.__getattribute__")) = false from rfl, if_neg Bool.false_ne_true]
  unfold boundAndCalled
  rw [PySem.F.excAttr_ValueError.ga.bind (.ref x)]
  refine wpAny_bind (wpAny_pure ?_)
  show wpAny _ _ (call (.builtin "BaseException.__getattribute__") [.ref x, .str "__class__" tk]) _ _ _
  refine wpAny_call (codeAny_call_builtin PySem.F.excAttr_ValueError.ga.plain PySem.F.entry_bexc_ga ?_)
  have sub : Looks (model prog w) hp (isInstance (.ref x) (.type "BaseException")) true := l0.andThen (looks_subIn X T.sb)
  refine @check_slot (model prog w) _ _ ⟨hp, gs, dr, tk + 1, os⟩ "BaseException.__getattribute__" "BaseException" "__getattribute__" (.ref x) [.str "__class__" tk] [] _ (by decide +kernel) (by decide +kernel) sub
    (PySem.F.args_bexc_ga (.ref x) (.str "__class__" tk)) ?_
  unfold Builtin.«object.__getattribute__»
  refine wpAny_bind ?_
  refine wpAny_of_eq (a := ((Value.ref x : Value), [Value.str "__class__" tk])) (by first | rfl | (simp only [slotArgs]; rfl)) ?_
  refine wpAny_bind (wpAny_pure (wpAny_bind (l0.at ?_)))
  refine wpAny_bind (l3.at ?_)
  show wpAny _ _ (holding [Value.builtin "object.__class__"] (call (.builtin "getset_descriptor.__get__") [.builtin "object.__class__", .ref x, .ref D]) >>= ret) _ _ _
  refine wpAny_bind (wpAny_holding (wpAny_call (class_get (s := ⟨hp, gs, dr, tk + 1, os⟩) (od := od) X I T.mo ?_)))
  refine wpAny_pure ?_
  show wpAny _ _ (handedOut (.ref D)) _ _ _
  rw [handedOut_of (v := .ref D) rfl]
  first
    | exact wpAny_pure (wpAny_pure q)
    | exact wpAny_pure q
    | exact wpAny_pure (wpAny_bind (wpAny_pure (wpAny_pure q)))
theorem kit_own (T : XC K D) : KitX K (.ref x) (.ref D) (fun h => InstAt h x ox D od) := by
  obtain ⟨cd, e, _⟩ := any_some T.hd
  have at_ : ∃ c d sl, K.lookup D = some ⟨c, d, .cls cd, sl⟩ := by
    unfold clsIn at e
    split at e
    · rename_i ho
      cases e
      exact ⟨_, _, _, ho⟩
    · cases e
  obtain ⟨c, d, sl, ho⟩ := at_
  refine ⟨fun _ _ _ I => I.type, fun _ _ X _ => ?_, fun h tp dd its n sl' X ht => ?_, fun X I q => own_class T X I q⟩
  · intro A Q E s k q
    unfold isType
    unfold loadHead
    exact wpAny_bind (wpAny_loadPart (k _ _ (X _ _ ho)) (wpAny_pure q))
  · cases z : (Value.ref D == Value.ref tp) with
    | false => rfl
    | true =>
      have e2 : D = tp := Value.ref.inj (beq_iff_eq.mp z)
      have z2 := X _ _ ho
      rw [e2, ht] at z2
      cases z2
end

/-- an exception of the class at C stands at a as a value; what it keeps -/
def XAt (H : Hp) (a C : Addr) : Option (List (Str × V)) → Prop
  | none => H a = some (ExO (.ref C) a)
  | some fs => ∃ d, H a = some (exo a C (some d)) ∧ H d = some (exd d fs)
theorem XAt.same {H H' : Hp} {a C : Addr} {o : Option (List (Str × V))} (s : Same H H') (h : XAt H a C o) : XAt H' a C o := by
  cases o with
  | none => exact s _ _ h
  | some fs =>
    obtain ⟨d, h1, h2⟩ := h
    exact ⟨d, s _ _ h1, s _ _ h2⟩
section
variable {X : Cx} {pins : List (Addr × Obj)} {σ : L2.St} {H : Hp} {s : Shared}
theorem XAt.inst {a C : Addr} {o : Option (List (Str × V))} (I : Inv X pins σ H s) (h : XAt H a C o) : ∃ oe od, PySem.W.InstAt s.heap a oe C od := by
  cases o with
  | none =>
    obtain ⟨⟨oe, vs, e1, e2, e3, _⟩, _⟩ := I.hok a _ h
    exact ⟨oe, none, e1, e2.1, by unfold PySem.W.notCls; rw [e3] <;> rfl, by rw [e2.2]; trivial⟩
  | some fs =>
    obtain ⟨d, h1, h2⟩ := h
    obtain ⟨t1, e1⟩ := exo_at I.hok h1
    obtain ⟨mA, hn, _⟩ := exd_at I.hok h2
    obtain ⟨od, eo, _⟩ := lookIn_ns hn
    exact ⟨_, some od, e1, rfl, rfl, eo⟩
/-- isinstance of an exception that is held as a value -/
theorem call_isiX : CallR X (.builtin "isinstance") (fun xs H Q => ∃ (a C : Addr) (o : Option (List (Str × V))) (c : V) (u : Value) (b : Bool), xs = [.ref a, c] ∧ ClsV c u ∧ XAt H a C o ∧ XC X.K C ∧ PySem.W.kitOne X.K (.ref C) u = some b ∧ Q (.bl b) H) := by
  intro pins s σ H xs us Q I r h
  obtain ⟨a, C, o, c, u, b, rfl, k, x, T, e, q⟩ := h
  obtain ⟨u1, u2, rfl, r1, r2⟩ := vals2 r
  have e2 := k.eq r2
  subst e2
  obtain rfl : u1 = Value.ref a := r1
  obtain ⟨oe, od, J⟩ := x.inst I
  exact PySem.W.kia_one (kit_own T) I.kIn J e (fun z => nomatch z) fun tk => ⟨.bl b, H, I.tok tk, rfl, q⟩
/-- e.f of such an exception -/
def tXv (K : PySem.W.Frag) (f : Str) (te : TE) : TE := fun σ H Q => te σ H fun y H1 => ∃ (a C : Addr) (fs : List (Str × V)) (v : V), y = .ref a ∧ XAt H1 a C (some fs) ∧ XC K C ∧ PySem.W.findIn K (.ref C) f = some none ∧ fs.lookup f = some v ∧ Q v H1
theorem pe_xv {e : Expr} {te : TE} {pos : Pos} {n : Str} (he : PE X e te) (hb : attributeBase e n X.env (eval e X.env) = eval e X.env := by rfl) : PE X (.Attribute e n pos) (tXv X.K n te) := by
  refine ⟨fun pins s σ H Q I h => attr_of hb (thn (he.run pins s σ H _ I h) fun u s1 ⟨y, H1, I1, ry, a, C, fs, v, ey, xa, T, hno, hl, q⟩ => ?_)⟩
  subst ey
  obtain rfl : u = Value.ref a := ry
  obtain ⟨d, h1, h2⟩ := xa
  obtain ⟨t1, e1⟩ := exo_at I1.hok h1
  obtain ⟨mA, hn, rel⟩ := exd_at I1.hok h2
  obtain ⟨od, eo, lk⟩ := lookIn_ns hn
  obtain ⟨v', hu, ru⟩ := RelO.some_of (v := v) (o := mA n) (by rw [← hl]; exact rel n)
  exact HandSPX.exc_get (ox := { cls := .ref C, dict := some d, data := .fields #[.ref t1, .none, .none, .none, .bool false, .none] }) (od := some od) I1.kIn ⟨e1, rfl, rfl, eo⟩ T.ga T.gg T.sb (PySem.W.findObj_own T.hd hno rfl (by rw [lk, hu])) (handed_of ru) ⟨v, H1, I1.tok _, ru, q⟩
/-- C(e, ..), as a value, its own __init__ keeping sp -/
def tMkV (C : Addr) (sp : Sp) (ta : TA) : TE := fun σ H Q => ta σ H fun vs H1 => vs.length ≤ 1000 ∧ ∀ a, H1 a = none → sp (.ref a :: vs) (upd H1 a (exo a C none)) (fun v H2 => v = .non ∧ Q (.ref a) H2) E0
theorem pe_mkv {x : Str} {C fI : Addr} {k : Nat} {fd : FuncData} {ps : List Str} {sp : Sp} {e : Expr} {es : List Expr} {ta : TA} {p pos : Pos} (T : OexC X.K C) (iC : PySem.W.findIn X.K (.ref C) "__init__" = some (some (.ref fI))) (tI : PySem.W.typeIn X.K (.ref fI) = some (.type "function"))
    (F : FnOk X.prog X.w X.K X.mg X.base CX0 k fI fd ps sp) (hr : Room (k + 1) X.A) (hb : Binds X.K fd ps []) (hg : Gl X x) (hm : X.mg x = some (.ref C)) (ha : PA X (e :: es) ta)
    (hdb : (x == ("__debug__" : Str)) = false := by decide) (he : starEach (e :: es) X.env = (false, eval e X.env) :: starEach es X.env := by rfl) (hpl : (backTo pos (starEach es X.env)).any (·.1) = false := by rfl) :
    PE X (.Call (.Name x p) (e :: es) [] pos) (tMkV C sp ta) := by
  refine ⟨fun pins s σ H Q I h => wpAny_Call_Name_kw (ld_glob I hg hm ?_ hdb)⟩
  obtain ⟨nm, q, N, bs, bm, sn, sub, ab, col, dd, k0, k1, k2, k3, k5, hC, hbm⟩ := T.cls
  refine PySem.W.callWith_K (h₀ := X.base) I.ok.mod.kin T.kC (thn (ha.run pos pins s σ H _ I h) fun us s1 ⟨vs, H1, I1, rv, hz, g⟩ => ⟨I1.kIn, ?_⟩) he hpl
  show wpAny _ _ (call (.ref C) us) _ _ _
  obtain ⟨hp, gs, dr, tk, os⟩ := s1
  have new : H1 (hp.objs.size + 1) = none := I1.hok.fresh (Nat.le_succ _)
  have g := g (hp.objs.size + 1) new
  let h2 := (hp.push (PySem.W.kdv_tup us)).push (PySem.HandSPX.excO C hp.objs.size)
  have at2 : h2.get? (hp.objs.size + 1) = some (PySem.HandSPX.excO C hp.objs.size) := by
    show ((hp.push (PySem.W.kdv_tup us)).push (PySem.HandSPX.excO C hp.objs.size)).get? (hp.objs.size + 1) = _
    heap_get
  have I2 : Inv X pins σ (upd H1 (hp.objs.size + 1) (exo (hp.objs.size + 1) C none)) ⟨h2, gs, dr, tk, os⟩ :=
    I1.laid (t' := tk) (a := hp.objs.size + 1) (h' := h2) (fun b o z => Heap.get?_push_of_some _ (Heap.get?_push_of_some _ z)) (Nat.le_succ _) (exo_ok at2)
  have r2 : Vals (V.ref (hp.objs.size + 1) :: vs) (Value.ref (hp.objs.size + 1) :: us) := .cons rfl rv
  have ln : (Value.ref (hp.objs.size + 1) :: us ++ []).length = ps.length := by
    rw [List.append_nil, ← r2.length]
    exact F.len _ _ _ _ g
  have hus : us.length ≤ sizeLine := by
    rw [← Paired.length rv, sizeLine_eq]
    omega
  have bd := hb ⟨h2, gs, dr, tk, os⟩ (Value.ref (hp.objs.size + 1) :: us) I2.kIn ln
  rw [List.append_nil] at bd
  refine wpAny_call (PySem.HandSPX.call_own PySem.F.excBase_ValueError (fun Y => PySem.HandSPX.refsVE_contains Y bm hbm) (I1.kIn _ _ hC) (PySem.W.looks_findIn I1.kIn iC) (fun self => PySem.W.bind_fn I1.kIn self tI) hus ?_)
  refine codeAny_mono (F.run _ X.stack _ _ _ _ _ _ E0 (hr.make C us []) (I2.env0.make C us []) bd r2 g) fun r s' z => ?_
  match r, z with
  | .error er, z => exact z.elim
  | .ok .next, z => exact z.elim
  | .ok .brk, z => exact z.elim
  | .ok .cont, z => exact z.elim
  | .ok (.ret u), ⟨v, H2, o2, b2, un2, ok2, ru, ev, q2⟩ =>
    subst ev
    refine ⟨ru, ?_⟩
    exact I2.after ⟨.ref (hp.objs.size + 1), H2, o2, b2, un2, ok2, rfl, q2⟩
/-- C(), a class without an __init__ of its own -/
theorem pe_mk0 {x : Str} {C : Addr} {p pos : Pos} (q : PySem.W.excIn X.K C [.type "ValueError", .type "Exception", .type "BaseException", .type "object"] "ValueError.__new__" = true) (kC : PySem.W.keepIn X.K (.ref C) = true) (hg : Gl X x) (hm : X.mg x = some (.ref C))
    (hdb : (x == ("__debug__" : Str)) = false := by decide) : PE X (.Call (.Name x p) [] [] pos) (fun _ H Q => ∀ a, H a = none → Q (.ref a) (upd H a (ExO (.ref C) a))) := by
  refine ⟨fun pins s σ H Q I h => wpAny_Call_Name_kw (ld_glob I hg hm (PySem.W.callWith_K0 I.kIn kC ?_) hdb)⟩
  obtain ⟨hp, gs, dr, tk, os⟩ := s
  obtain ⟨bm, N, nm, qn, bs, hdct, sn, sub, ab, col, dd, k0, k1, k2, k3, k5, mN, hC, hN, hni, T⟩ := exc_obj I.kIn q
  refine wpAny_call_exc_subT PySem.F.excBase_ValueError T hC hN hni (fun h' a M => ?_) (by rw [sizeLine_eq]; decide)
  have n : H a = none := I.hok.gone M.new
  obtain ⟨t, e, _, _⟩ := M.there
  exact ⟨.ref a, upd H a (ExO (.ref C) a), I.laidN M.keeps M.new n (exO_ok e ⟨rfl, rfl⟩ rfl rfl rfl (by show 4 < 6; decide)), rfl, h a n⟩
end
end Vf
namespace Vf
open PySem PySem.Spec PyProof.Rows L2
def xcB (K : PySem.W.Frag) (D : Addr) : Bool :=
  decide (PySem.W.findIn K (.ref D) "__getattribute__" = some (some (.builtin "BaseException.__getattribute__"))) && (decide (PySem.W.findIn K (.ref D) "__getattr__" = some none) && (decide (PySem.W.subIn K (.ref D) (.type "BaseException") = some true) &&
  (PySem.W.hasDictIn K D && (decide (PySem.W.findIn K (.ref D) "__class__" = some (some (.builtin "object.__class__"))) && (decide (PySem.W.specialIn K (.builtin "object.__class__") "__get__" = some (some (.builtin "getset_descriptor.__get__"))) &&
  (decide (PySem.W.takesIn K (.builtin "object.__class__") = some true) && decide (PySem.W.mroIn K D (.type "object") = some true)))))))
theorem xcB_ok {K : PySem.W.Frag} {D : Addr} (h : xcB K D = true) : XC K D := by
  obtain ⟨h1, h⟩ := Bool.and_eq_true_iff.mp h
  obtain ⟨h2, h⟩ := Bool.and_eq_true_iff.mp h
  obtain ⟨h3, h⟩ := Bool.and_eq_true_iff.mp h
  obtain ⟨h4, h⟩ := Bool.and_eq_true_iff.mp h
  obtain ⟨h5, h⟩ := Bool.and_eq_true_iff.mp h
  obtain ⟨h6, h⟩ := Bool.and_eq_true_iff.mp h
  obtain ⟨h7, h8⟩ := Bool.and_eq_true_iff.mp h
  exact ⟨of_decide_eq_true h1, of_decide_eq_true h2, of_decide_eq_true h3, h4, of_decide_eq_true h5, of_decide_eq_true h6, of_decide_eq_true h7, of_decide_eq_true h8⟩
end Vf

set_option maxRecDepth 100000
set_option maxHeartbeats 4000000
namespace Vf
open PySem PySem.Spec PyProof.Rows L2
/-! ### the errors' own __init__ -/
def fl (names : List Str) (xs : List V) : List (Str × V) := (names.zip xs).reverse
/-- self.f = f, for each of the names -/
def spIni (C : Addr) (names : List Str) : Sp := fun vs H Q _ => ∃ (a : Addr) (xs : List V), vs = .ref a :: xs ∧ xs.length = names.length ∧ H a = some (exo a C none) ∧
  ∀ (d : Addr) (H' : Hp), H d = none → d ≠ a → H' a = some (exo a C (some d)) → H' d = some (exd d (fl names xs)) → (∀ b o, b ≠ a → H b = some o → H' b = some o) → Q .non H'
theorem keep2 {H : Hp} {a d : Addr} {o u : HO} (n : H d = none) : ∀ b z, b ≠ a → H b = some z → upd (upd H d o) a u b = some z := fun b z h e => by
  rw [upd_ne h, upd_ne (ne_of_none e n)]
  exact e
theorem keep3 {H1 H : Hp} {a d : Addr} {u : HO} (n : H d = none) (k : ∀ b z, b ≠ a → H b = some z → H1 b = some z) : ∀ b z, b ≠ a → H b = some z → upd H1 d u b = some z := fun b z h e => by
  rw [upd_ne (ne_of_none e n)]
  exact k b z h e
section
variable {P : Program} {w : World} {K : PySem.W.Frag} {mg : Str → Option Value} {base : Heap}
theorem scBadText : FnScope ["self", "column"] ["self", "column"] (defScope (inClass (topS 2) 0)) := ⟨rfl, rfl, rfl, by decide +kernel, rfl, by decide +kernel, by decide +kernel⟩
theorem iniBadText {f C : Addr} {fd : FuncData} (F : Fun K "__init__" "BadText.__init__" (inClass (topS 2) 0) f fd) (T : OexC K C) (n1 : PySem.W.findIn K (.ref C) "column" = some none) :
    FnOk P w K mg base CX0 1 f fd ["self", "column"] (spIni C ["column"]) := by
  refine F.ok scBadText (fun vs H Q E h => ?_) (fun cdv A outer s H vs Q E hr h => ?_)
  · obtain ⟨a, xs, rfl, hl, _⟩ := h
    rw [List.length_cons, hl]
    all_goals rfl
  · obtain ⟨a, xs, rfl, hl, ha, k⟩ := h
    match xs, hl with
    | [v1], _ =>
    refine ⟨_, (pss_one (ps_ost (pv 0) (pv 1))), ?_⟩
    refine ⟨_, rfl, _, rfl, a, C, rfl, T, n1, .inl ⟨ha, fun d nd ne => ?_⟩⟩
    exact k d _ nd ne upd_same (by rw [upd_ne ne]; exact upd_same) (keep2 nd)
theorem scBadLine : FnScope ["self", "line", "column"] ["self", "line", "column"] (defScope (inClass (topS 3) 0)) := ⟨rfl, rfl, rfl, by decide +kernel, rfl, by decide +kernel, by decide +kernel⟩
theorem iniBadLine {f C : Addr} {fd : FuncData} (F : Fun K "__init__" "BadLine.__init__" (inClass (topS 3) 0) f fd) (T : OexC K C) (n1 : PySem.W.findIn K (.ref C) "line" = some none) (n2 : PySem.W.findIn K (.ref C) "column" = some none) :
    FnOk P w K mg base CX0 1 f fd ["self", "line", "column"] (spIni C ["line", "column"]) := by
  refine F.ok scBadLine (fun vs H Q E h => ?_) (fun cdv A outer s H vs Q E hr h => ?_)
  · obtain ⟨a, xs, rfl, hl, _⟩ := h
    rw [List.length_cons, hl]
    all_goals rfl
  · obtain ⟨a, xs, rfl, hl, ha, k⟩ := h
    match xs, hl with
    | [v1, v2], _ =>
    refine ⟨_, (pss_cons (ps_ost (pv 0) (pv 1)) (pss_one (ps_ost (pv 0) (pv 2)))), ?_⟩
    refine ⟨_, rfl, _, rfl, a, C, rfl, T, n1, .inl ⟨ha, fun d nd ne => ?_⟩⟩
    have e1 : (upd (upd H d (exd d [("line", v1)])) a (exo a C (some d))) a = some (exo a C (some d)) := upd_same
    have e2 : (upd (upd H d (exd d [("line", v1)])) a (exo a C (some d))) d = some (exd d [("line", v1)]) := by rw [upd_ne ne]; exact upd_same
    have e3 := keep2 (H := H) (a := a) (d := d) (o := exd d [("line", v1)]) (u := exo a C (some d)) nd
    generalize upd (upd H d (exd d [("line", v1)])) a (exo a C (some d)) = H1 at e1 e2 e3
    refine ⟨_, rfl, _, rfl, a, C, rfl, T, n2, .inr ⟨d, _, e1, e2, (by show 1 ≤ 900; decide), ?_⟩⟩
    exact k d _ nd ne (by rw [upd_ne ne.symm]; exact e1) upd_same (keep3 nd e3)
theorem scBadNumber : FnScope ["self", "what", "number"] ["self", "what", "number"] (defScope (inClass (topS 4) 0)) := ⟨rfl, rfl, rfl, by decide +kernel, rfl, by decide +kernel, by decide +kernel⟩
theorem iniBadNumber {f C : Addr} {fd : FuncData} (F : Fun K "__init__" "BadNumber.__init__" (inClass (topS 4) 0) f fd) (T : OexC K C) (n1 : PySem.W.findIn K (.ref C) "what" = some none) (n2 : PySem.W.findIn K (.ref C) "number" = some none) :
    FnOk P w K mg base CX0 1 f fd ["self", "what", "number"] (spIni C ["what", "number"]) := by
  refine F.ok scBadNumber (fun vs H Q E h => ?_) (fun cdv A outer s H vs Q E hr h => ?_)
  · obtain ⟨a, xs, rfl, hl, _⟩ := h
    rw [List.length_cons, hl]
    all_goals rfl
  · obtain ⟨a, xs, rfl, hl, ha, k⟩ := h
    match xs, hl with
    | [v1, v2], _ =>
    refine ⟨_, (pss_cons (ps_ost (pv 0) (pv 1)) (pss_one (ps_ost (pv 0) (pv 2)))), ?_⟩
    refine ⟨_, rfl, _, rfl, a, C, rfl, T, n1, .inl ⟨ha, fun d nd ne => ?_⟩⟩
    have e1 : (upd (upd H d (exd d [("what", v1)])) a (exo a C (some d))) a = some (exo a C (some d)) := upd_same
    have e2 : (upd (upd H d (exd d [("what", v1)])) a (exo a C (some d))) d = some (exd d [("what", v1)]) := by rw [upd_ne ne]; exact upd_same
    have e3 := keep2 (H := H) (a := a) (d := d) (o := exd d [("what", v1)]) (u := exo a C (some d)) nd
    generalize upd (upd H d (exd d [("what", v1)])) a (exo a C (some d)) = H1 at e1 e2 e3
    refine ⟨_, rfl, _, rfl, a, C, rfl, T, n2, .inr ⟨d, _, e1, e2, (by show 1 ≤ 900; decide), ?_⟩⟩
    exact k d _ nd ne (by rw [upd_ne ne.symm]; exact e1) upd_same (keep3 nd e3)
theorem scBadRow : FnScope ["self", "row"] ["self", "row"] (defScope (inClass (topS 5) 0)) := ⟨rfl, rfl, rfl, by decide +kernel, rfl, by decide +kernel, by decide +kernel⟩
theorem iniBadRow {f C : Addr} {fd : FuncData} (F : Fun K "__init__" "BadRow.__init__" (inClass (topS 5) 0) f fd) (T : OexC K C) (n1 : PySem.W.findIn K (.ref C) "row" = some none) :
    FnOk P w K mg base CX0 1 f fd ["self", "row"] (spIni C ["row"]) := by
  refine F.ok scBadRow (fun vs H Q E h => ?_) (fun cdv A outer s H vs Q E hr h => ?_)
  · obtain ⟨a, xs, rfl, hl, _⟩ := h
    rw [List.length_cons, hl]
    all_goals rfl
  · obtain ⟨a, xs, rfl, hl, ha, k⟩ := h
    match xs, hl with
    | [v1], _ =>
    refine ⟨_, (pss_one (ps_ost (pv 0) (pv 1))), ?_⟩
    refine ⟨_, rfl, _, rfl, a, C, rfl, T, n1, .inl ⟨ha, fun d nd ne => ?_⟩⟩
    exact k d _ nd ne upd_same (by rw [upd_ne ne]; exact upd_same) (keep2 nd)
theorem scBadInterval : FnScope ["self", "low", "high"] ["self", "low", "high"] (defScope (inClass (topS 6) 0)) := ⟨rfl, rfl, rfl, by decide +kernel, rfl, by decide +kernel, by decide +kernel⟩
theorem iniBadInterval {f C : Addr} {fd : FuncData} (F : Fun K "__init__" "BadInterval.__init__" (inClass (topS 6) 0) f fd) (T : OexC K C) (n1 : PySem.W.findIn K (.ref C) "low" = some none) (n2 : PySem.W.findIn K (.ref C) "high" = some none) :
    FnOk P w K mg base CX0 1 f fd ["self", "low", "high"] (spIni C ["low", "high"]) := by
  refine F.ok scBadInterval (fun vs H Q E h => ?_) (fun cdv A outer s H vs Q E hr h => ?_)
  · obtain ⟨a, xs, rfl, hl, _⟩ := h
    rw [List.length_cons, hl]
    all_goals rfl
  · obtain ⟨a, xs, rfl, hl, ha, k⟩ := h
    match xs, hl with
    | [v1, v2], _ =>
    refine ⟨_, (pss_cons (ps_ost (pv 0) (pv 1)) (pss_one (ps_ost (pv 0) (pv 2)))), ?_⟩
    refine ⟨_, rfl, _, rfl, a, C, rfl, T, n1, .inl ⟨ha, fun d nd ne => ?_⟩⟩
    have e1 : (upd (upd H d (exd d [("low", v1)])) a (exo a C (some d))) a = some (exo a C (some d)) := upd_same
    have e2 : (upd (upd H d (exd d [("low", v1)])) a (exo a C (some d))) d = some (exd d [("low", v1)]) := by rw [upd_ne ne]; exact upd_same
    have e3 := keep2 (H := H) (a := a) (d := d) (o := exd d [("low", v1)]) (u := exo a C (some d)) nd
    generalize upd (upd H d (exd d [("low", v1)])) a (exo a C (some d)) = H1 at e1 e2 e3
    refine ⟨_, rfl, _, rfl, a, C, rfl, T, n2, .inr ⟨d, _, e1, e2, (by show 1 ≤ 900; decide), ?_⟩⟩
    exact k d _ nd ne (by rw [upd_ne ne.symm]; exact e1) upd_same (keep3 nd e3)
theorem scBadName : FnScope ["self", "name"] ["self", "name"] (defScope (inClass (topS 7) 0)) := ⟨rfl, rfl, rfl, by decide +kernel, rfl, by decide +kernel, by decide +kernel⟩
theorem iniBadName {f C : Addr} {fd : FuncData} (F : Fun K "__init__" "BadName.__init__" (inClass (topS 7) 0) f fd) (T : OexC K C) (n1 : PySem.W.findIn K (.ref C) "name" = some none) :
    FnOk P w K mg base CX0 1 f fd ["self", "name"] (spIni C ["name"]) := by
  refine F.ok scBadName (fun vs H Q E h => ?_) (fun cdv A outer s H vs Q E hr h => ?_)
  · obtain ⟨a, xs, rfl, hl, _⟩ := h
    rw [List.length_cons, hl]
    all_goals rfl
  · obtain ⟨a, xs, rfl, hl, ha, k⟩ := h
    match xs, hl with
    | [v1], _ =>
    refine ⟨_, (pss_one (ps_ost (pv 0) (pv 1))), ?_⟩
    refine ⟨_, rfl, _, rfl, a, C, rfl, T, n1, .inl ⟨ha, fun d nd ne => ?_⟩⟩
    exact k d _ nd ne upd_same (by rw [upd_ne ne]; exact upd_same) (keep2 nd)
theorem scUnlike : FnScope ["self", "what"] ["self", "what"] (defScope (inClass (topS 8) 0)) := ⟨rfl, rfl, rfl, by decide +kernel, rfl, by decide +kernel, by decide +kernel⟩
theorem iniUnlike {f C : Addr} {fd : FuncData} (F : Fun K "__init__" "Unlike.__init__" (inClass (topS 8) 0) f fd) (T : OexC K C) (n1 : PySem.W.findIn K (.ref C) "what" = some none) :
    FnOk P w K mg base CX0 1 f fd ["self", "what"] (spIni C ["what"]) := by
  refine F.ok scUnlike (fun vs H Q E h => ?_) (fun cdv A outer s H vs Q E hr h => ?_)
  · obtain ⟨a, xs, rfl, hl, _⟩ := h
    rw [List.length_cons, hl]
    all_goals rfl
  · obtain ⟨a, xs, rfl, hl, ha, k⟩ := h
    match xs, hl with
    | [v1], _ =>
    refine ⟨_, (pss_one (ps_ost (pv 0) (pv 1))), ?_⟩
    refine ⟨_, rfl, _, rfl, a, C, rfl, T, n1, .inl ⟨ha, fun d nd ne => ?_⟩⟩
    exact k d _ nd ne upd_same (by rw [upd_ne ne]; exact upd_same) (keep2 nd)
theorem scTooMany : FnScope ["self", "what", "limit"] ["self", "what", "limit"] (defScope (inClass (topS 9) 0)) := ⟨rfl, rfl, rfl, by decide +kernel, rfl, by decide +kernel, by decide +kernel⟩
theorem iniTooMany {f C : Addr} {fd : FuncData} (F : Fun K "__init__" "TooMany.__init__" (inClass (topS 9) 0) f fd) (T : OexC K C) (n1 : PySem.W.findIn K (.ref C) "what" = some none) (n2 : PySem.W.findIn K (.ref C) "limit" = some none) :
    FnOk P w K mg base CX0 1 f fd ["self", "what", "limit"] (spIni C ["what", "limit"]) := by
  refine F.ok scTooMany (fun vs H Q E h => ?_) (fun cdv A outer s H vs Q E hr h => ?_)
  · obtain ⟨a, xs, rfl, hl, _⟩ := h
    rw [List.length_cons, hl]
    all_goals rfl
  · obtain ⟨a, xs, rfl, hl, ha, k⟩ := h
    match xs, hl with
    | [v1, v2], _ =>
    refine ⟨_, (pss_cons (ps_ost (pv 0) (pv 1)) (pss_one (ps_ost (pv 0) (pv 2)))), ?_⟩
    refine ⟨_, rfl, _, rfl, a, C, rfl, T, n1, .inl ⟨ha, fun d nd ne => ?_⟩⟩
    have e1 : (upd (upd H d (exd d [("what", v1)])) a (exo a C (some d))) a = some (exo a C (some d)) := upd_same
    have e2 : (upd (upd H d (exd d [("what", v1)])) a (exo a C (some d))) d = some (exd d [("what", v1)]) := by rw [upd_ne ne]; exact upd_same
    have e3 := keep2 (H := H) (a := a) (d := d) (o := exd d [("what", v1)]) (u := exo a C (some d)) nd
    generalize upd (upd H d (exd d [("what", v1)])) a (exo a C (some d)) = H1 at e1 e2 e3
    refine ⟨_, rfl, _, rfl, a, C, rfl, T, n2, .inr ⟨d, _, e1, e2, (by show 1 ≤ 900; decide), ?_⟩⟩
    exact k d _ nd ne (by rw [upd_ne ne.symm]; exact e1) upd_same (keep3 nd e3)
theorem scTooLarge : FnScope ["self", "what", "number", "limit"] ["self", "what", "number", "limit"] (defScope (inClass (topS 10) 0)) := ⟨rfl, rfl, rfl, by decide +kernel, rfl, by decide +kernel, by decide +kernel⟩
theorem iniTooLarge {f C : Addr} {fd : FuncData} (F : Fun K "__init__" "TooLarge.__init__" (inClass (topS 10) 0) f fd) (T : OexC K C) (n1 : PySem.W.findIn K (.ref C) "what" = some none) (n2 : PySem.W.findIn K (.ref C) "number" = some none) (n3 : PySem.W.findIn K (.ref C) "limit" = some none) :
    FnOk P w K mg base CX0 1 f fd ["self", "what", "number", "limit"] (spIni C ["what", "number", "limit"]) := by
  refine F.ok scTooLarge (fun vs H Q E h => ?_) (fun cdv A outer s H vs Q E hr h => ?_)
  · obtain ⟨a, xs, rfl, hl, _⟩ := h
    rw [List.length_cons, hl]
    all_goals rfl
  · obtain ⟨a, xs, rfl, hl, ha, k⟩ := h
    match xs, hl with
    | [v1, v2, v3], _ =>
    refine ⟨_, (pss_cons (ps_ost (pv 0) (pv 1)) (pss_cons (ps_ost (pv 0) (pv 2)) (pss_one (ps_ost (pv 0) (pv 3))))), ?_⟩
    refine ⟨_, rfl, _, rfl, a, C, rfl, T, n1, .inl ⟨ha, fun d nd ne => ?_⟩⟩
    have e1 : (upd (upd H d (exd d [("what", v1)])) a (exo a C (some d))) a = some (exo a C (some d)) := upd_same
    have e2 : (upd (upd H d (exd d [("what", v1)])) a (exo a C (some d))) d = some (exd d [("what", v1)]) := by rw [upd_ne ne]; exact upd_same
    have e3 := keep2 (H := H) (a := a) (d := d) (o := exd d [("what", v1)]) (u := exo a C (some d)) nd
    generalize upd (upd H d (exd d [("what", v1)])) a (exo a C (some d)) = H1 at e1 e2 e3
    refine ⟨_, rfl, _, rfl, a, C, rfl, T, n2, .inr ⟨d, _, e1, e2, (by show 1 ≤ 900; decide), ?_⟩⟩
    have g1 : (upd H1 d (exd d [("number", v2), ("what", v1)])) a = some (exo a C (some d)) := by rw [upd_ne ne.symm]; exact e1
    have g2 : (upd H1 d (exd d [("number", v2), ("what", v1)])) d = some (exd d [("number", v2), ("what", v1)]) := upd_same
    have g3 := keep3 (u := exd d [("number", v2), ("what", v1)]) nd e3
    clear e1 e2 e3
    generalize upd H1 d (exd d [("number", v2), ("what", v1)]) = H2 at g1 g2 g3
    have e1 := g1; have e2 := g2; have e3 := g3; clear g1 g2 g3
    refine ⟨_, rfl, _, rfl, a, C, rfl, T, n3, .inr ⟨d, _, e1, e2, (by show 2 ≤ 900; decide), ?_⟩⟩
    exact k d _ nd ne (by rw [upd_ne ne.symm]; exact e1) upd_same (keep3 nd e3)
theorem scFewer : FnScope ["self", "what"] ["self", "what"] (defScope (inClass (topS 13) 0)) := ⟨rfl, rfl, rfl, by decide +kernel, rfl, by decide +kernel, by decide +kernel⟩
theorem iniFewer {f C : Addr} {fd : FuncData} (F : Fun K "__init__" "Fewer.__init__" (inClass (topS 13) 0) f fd) (T : OexC K C) (n1 : PySem.W.findIn K (.ref C) "what" = some none) :
    FnOk P w K mg base CX0 1 f fd ["self", "what"] (spIni C ["what"]) := by
  refine F.ok scFewer (fun vs H Q E h => ?_) (fun cdv A outer s H vs Q E hr h => ?_)
  · obtain ⟨a, xs, rfl, hl, _⟩ := h
    rw [List.length_cons, hl]
    all_goals rfl
  · obtain ⟨a, xs, rfl, hl, ha, k⟩ := h
    match xs, hl with
    | [v1], _ =>
    refine ⟨_, (pss_one (ps_ost (pv 0) (pv 1))), ?_⟩
    refine ⟨_, rfl, _, rfl, a, C, rfl, T, n1, .inl ⟨ha, fun d nd ne => ?_⟩⟩
    exact k d _ nd ne upd_same (by rw [upd_ne ne]; exact upd_same) (keep2 nd)
theorem scNoName : FnScope ["self", "name"] ["self", "name"] (defScope (inClass (topS 14) 0)) := ⟨rfl, rfl, rfl, by decide +kernel, rfl, by decide +kernel, by decide +kernel⟩
theorem iniNoName {f C : Addr} {fd : FuncData} (F : Fun K "__init__" "NoName.__init__" (inClass (topS 14) 0) f fd) (T : OexC K C) (n1 : PySem.W.findIn K (.ref C) "name" = some none) :
    FnOk P w K mg base CX0 1 f fd ["self", "name"] (spIni C ["name"]) := by
  refine F.ok scNoName (fun vs H Q E h => ?_) (fun cdv A outer s H vs Q E hr h => ?_)
  · obtain ⟨a, xs, rfl, hl, _⟩ := h
    rw [List.length_cons, hl]
    all_goals rfl
  · obtain ⟨a, xs, rfl, hl, ha, k⟩ := h
    match xs, hl with
    | [v1], _ =>
    refine ⟨_, (pss_one (ps_ost (pv 0) (pv 1))), ?_⟩
    refine ⟨_, rfl, _, rfl, a, C, rfl, T, n1, .inl ⟨ha, fun d nd ne => ?_⟩⟩
    exact k d _ nd ne upd_same (by rw [upd_ne ne]; exact upd_same) (keep2 nd)
theorem scTakenName : FnScope ["self", "name"] ["self", "name"] (defScope (inClass (topS 15) 0)) := ⟨rfl, rfl, rfl, by decide +kernel, rfl, by decide +kernel, by decide +kernel⟩
theorem iniTakenName {f C : Addr} {fd : FuncData} (F : Fun K "__init__" "TakenName.__init__" (inClass (topS 15) 0) f fd) (T : OexC K C) (n1 : PySem.W.findIn K (.ref C) "name" = some none) :
    FnOk P w K mg base CX0 1 f fd ["self", "name"] (spIni C ["name"]) := by
  refine F.ok scTakenName (fun vs H Q E h => ?_) (fun cdv A outer s H vs Q E hr h => ?_)
  · obtain ⟨a, xs, rfl, hl, _⟩ := h
    rw [List.length_cons, hl]
    all_goals rfl
  · obtain ⟨a, xs, rfl, hl, ha, k⟩ := h
    match xs, hl with
    | [v1], _ =>
    refine ⟨_, (pss_one (ps_ost (pv 0) (pv 1))), ?_⟩
    refine ⟨_, rfl, _, rfl, a, C, rfl, T, n1, .inl ⟨ha, fun d nd ne => ?_⟩⟩
    exact k d _ nd ne upd_same (by rw [upd_ne ne]; exact upd_same) (keep2 nd)
theorem scNotKept : FnScope ["self", "promise", "witness"] ["self", "promise", "witness"] (defScope (inClass (topS 16) 0)) := ⟨rfl, rfl, rfl, by decide +kernel, rfl, by decide +kernel, by decide +kernel⟩
theorem iniNotKept {f C : Addr} {fd : FuncData} (F : Fun K "__init__" "NotKept.__init__" (inClass (topS 16) 0) f fd) (T : OexC K C) (n1 : PySem.W.findIn K (.ref C) "promise" = some none) (n2 : PySem.W.findIn K (.ref C) "witness" = some none) :
    FnOk P w K mg base CX0 1 f fd ["self", "promise", "witness"] (spIni C ["promise", "witness"]) := by
  refine F.ok scNotKept (fun vs H Q E h => ?_) (fun cdv A outer s H vs Q E hr h => ?_)
  · obtain ⟨a, xs, rfl, hl, _⟩ := h
    rw [List.length_cons, hl]
    all_goals rfl
  · obtain ⟨a, xs, rfl, hl, ha, k⟩ := h
    match xs, hl with
    | [v1, v2], _ =>
    refine ⟨_, (pss_cons (ps_ost (pv 0) (pv 1)) (pss_one (ps_ost (pv 0) (pv 2)))), ?_⟩
    refine ⟨_, rfl, _, rfl, a, C, rfl, T, n1, .inl ⟨ha, fun d nd ne => ?_⟩⟩
    have e1 : (upd (upd H d (exd d [("promise", v1)])) a (exo a C (some d))) a = some (exo a C (some d)) := upd_same
    have e2 : (upd (upd H d (exd d [("promise", v1)])) a (exo a C (some d))) d = some (exd d [("promise", v1)]) := by rw [upd_ne ne]; exact upd_same
    have e3 := keep2 (H := H) (a := a) (d := d) (o := exd d [("promise", v1)]) (u := exo a C (some d)) nd
    generalize upd (upd H d (exd d [("promise", v1)])) a (exo a C (some d)) = H1 at e1 e2 e3
    refine ⟨_, rfl, _, rfl, a, C, rfl, T, n2, .inr ⟨d, _, e1, e2, (by show 1 ≤ 900; decide), ?_⟩⟩
    exact k d _ nd ne (by rw [upd_ne ne.symm]; exact e1) upd_same (keep3 nd e3)
end
end Vf

set_option maxRecDepth 100000
set_option maxHeartbeats 4000000
namespace Vf
open PySem PySem.Spec PyProof.Rows L2
/-! ### the classes of the errors -/
/-- an error class with an __init__ of its own -/
structure Ini (P : Program) (w : World) (K : PySem.W.Frag) (mg : Str → Option Value) (base : Heap) (C : Addr) (names : List Str) where
  ox : OexC K C
  f : Addr
  fd : FuncData
  iC : PySem.W.findIn K (.ref C) "__init__" = some (some (.ref f))
  tI : PySem.W.typeIn K (.ref f) = some (.type "function")
  b : Binds K fd ("self" :: names) []
  ok : FnOk P w K mg base CX0 1 f fd ("self" :: names) (spIni C names)
  no : ∀ x ∈ names, PySem.W.findIn K (.ref C) x = some none
/-- what is known of the seventeen classes -/
structure Kls (K : PySem.W.Frag) (mg : Str → Option Value) (C : Nat → Addr) : Prop where
  cls : ∀ k, k < 17 → XC K (C k)
  kit : ∀ k j, k < 17 → j < 17 → PySem.W.kitOne K (.ref (C k)) (.ref (C j)) = some (decide (k = j))
  ce : ∃ D, mg "CurveError" = some (.ref D) ∧ ∀ k, k < 17 → PySem.W.kitOne K (.ref (C k)) (.ref D) = some true
  ve : ∀ k, k < 17 → PySem.W.kitOne K (.ref (C k)) (.type "ValueError") = some true
  mVE : mg "ValueError" = none
  isinstance : mg "isinstance" = none
  mBadText : mg "BadText" = some (.ref (C 0))
  mBadLine : mg "BadLine" = some (.ref (C 1))
  mBadNumber : mg "BadNumber" = some (.ref (C 2))
  mBadRow : mg "BadRow" = some (.ref (C 3))
  mBadInterval : mg "BadInterval" = some (.ref (C 4))
  mBadName : mg "BadName" = some (.ref (C 5))
  mUnlike : mg "Unlike" = some (.ref (C 6))
  mTooMany : mg "TooMany" = some (.ref (C 7))
  mTooLarge : mg "TooLarge" = some (.ref (C 8))
  mTooWide : mg "TooWide" = some (.ref (C 9))
  mPole : mg "Pole" = some (.ref (C 10))
  mFewer : mg "Fewer" = some (.ref (C 11))
  mNoName : mg "NoName" = some (.ref (C 12))
  mTakenName : mg "TakenName" = some (.ref (C 13))
  mNotKept : mg "NotKept" = some (.ref (C 14))
  mNothingToUndo : mg "NothingToUndo" = some (.ref (C 15))
  mNothingToRedo : mg "NothingToRedo" = some (.ref (C 16))
  xTooWide : PySem.W.excIn K (C 9) [.type "ValueError", .type "Exception", .type "BaseException", .type "object"] "ValueError.__new__" = true
  kTooWide : PySem.W.keepIn K (.ref (C 9)) = true
  xPole : PySem.W.excIn K (C 10) [.type "ValueError", .type "Exception", .type "BaseException", .type "object"] "ValueError.__new__" = true
  kPole : PySem.W.keepIn K (.ref (C 10)) = true
  xNothingToUndo : PySem.W.excIn K (C 15) [.type "ValueError", .type "Exception", .type "BaseException", .type "object"] "ValueError.__new__" = true
  kNothingToUndo : PySem.W.keepIn K (.ref (C 15)) = true
  xNothingToRedo : PySem.W.excIn K (C 16) [.type "ValueError", .type "Exception", .type "BaseException", .type "object"] "ValueError.__new__" = true
  kNothingToRedo : PySem.W.keepIn K (.ref (C 16)) = true
def spKinds (C : Nat → Addr) : Sp := fun vs H Q _ => ∃ (e : Addr) (k : Nat) (o : Option (List (Str × V))), vs = [.ref e] ∧ k < 17 ∧ XAt H e (C k) o ∧
  ∀ (l : Addr) (H' : Hp), Same H H' → H' l = some (.lst ((List.range 17).map fun j => V.bl (decide (k = j)))) → Q (.ref l) H'
section
variable {P : Program} {w : World} {K : PySem.W.Frag} {mg : Str → Option Value} {base : Heap} {C : Nat → Addr}
abbrev sKinds : Stmt := topS 24
theorem scKinds : FnScope ["_law_e", "_law_first"] ["_law_e"] (defScope sKinds) := ⟨rfl, rfl, rfl, by decide +kernel, rfl, by decide +kernel, by decide +kernel⟩
theorem ok_kinds {f : Addr} {fd : FuncData} (F : Fun K "_law_kinds" "_law_kinds" sKinds f fd) (T : Kls K mg C) : FnOk P w K mg base CX0 1 f fd ["_law_e"] (spKinds C) := by
  refine F.ok scKinds (fun vs H Q E h => ?_) (fun cdv A outer s H vs Q E hr h => ?_)
  · obtain ⟨e, k, o, rfl, _⟩ := h
    rfl
  · obtain ⟨e, k, o, rfl, hk, x, q⟩ := h
    refine ⟨_, (pss_cons (ps_set (i := 1) scKinds.nd rfl (Or.inl rfl) (pe_lst (pa_cons (pe_callB call_isiX (by rfl) T.isinstance (by decide +kernel) (pa_cons (pv 0) (pa_cons (pe_glob (v := V.ref _) rfl T.mBadText rfl) pa_nil))) (pa_cons (pe_callB call_isiX (by rfl) T.isinstance (by decide +kernel) (pa_cons (pv 0) (pa_cons (pe_glob (v := V.ref _) rfl T.mBadLine rfl) pa_nil))) (pa_cons (pe_callB call_isiX (by rfl) T.isinstance (by decide +kernel) (pa_cons (pv 0) (pa_cons (pe_glob (v := V.ref _) rfl T.mBadNumber rfl) pa_nil))) (pa_cons (pe_callB call_isiX (by rfl) T.isinstance (by decide +kernel) (pa_cons (pv 0) (pa_cons (pe_glob (v := V.ref _) rfl T.mBadRow rfl) pa_nil))) pa_nil))))))
  (pss_cons (ps_set (i := 1) scKinds.nd rfl (Or.inl rfl) (pe_op op_cat (pv 1) (pe_lst (pa_cons (pe_callB call_isiX (by rfl) T.isinstance (by decide +kernel) (pa_cons (pv 0) (pa_cons (pe_glob (v := V.ref _) rfl T.mBadInterval rfl) pa_nil))) (pa_cons (pe_callB call_isiX (by rfl) T.isinstance (by decide +kernel) (pa_cons (pv 0) (pa_cons (pe_glob (v := V.ref _) rfl T.mBadName rfl) pa_nil))) (pa_cons (pe_callB call_isiX (by rfl) T.isinstance (by decide +kernel) (pa_cons (pv 0) (pa_cons (pe_glob (v := V.ref _) rfl T.mUnlike rfl) pa_nil))) (pa_cons (pe_callB call_isiX (by rfl) T.isinstance (by decide +kernel) (pa_cons (pv 0) (pa_cons (pe_glob (v := V.ref _) rfl T.mTooMany rfl) pa_nil))) pa_nil)))))))
  (pss_cons (ps_set (i := 1) scKinds.nd rfl (Or.inl rfl) (pe_op op_cat (pv 1) (pe_lst (pa_cons (pe_callB call_isiX (by rfl) T.isinstance (by decide +kernel) (pa_cons (pv 0) (pa_cons (pe_glob (v := V.ref _) rfl T.mTooLarge rfl) pa_nil))) (pa_cons (pe_callB call_isiX (by rfl) T.isinstance (by decide +kernel) (pa_cons (pv 0) (pa_cons (pe_glob (v := V.ref _) rfl T.mTooWide rfl) pa_nil))) (pa_cons (pe_callB call_isiX (by rfl) T.isinstance (by decide +kernel) (pa_cons (pv 0) (pa_cons (pe_glob (v := V.ref _) rfl T.mPole rfl) pa_nil))) (pa_cons (pe_callB call_isiX (by rfl) T.isinstance (by decide +kernel) (pa_cons (pv 0) (pa_cons (pe_glob (v := V.ref _) rfl T.mFewer rfl) pa_nil))) pa_nil)))))))
  (pss_cons (ps_set (i := 1) scKinds.nd rfl (Or.inl rfl) (pe_op op_cat (pv 1) (pe_lst (pa_cons (pe_callB call_isiX (by rfl) T.isinstance (by decide +kernel) (pa_cons (pv 0) (pa_cons (pe_glob (v := V.ref _) rfl T.mNoName rfl) pa_nil))) (pa_cons (pe_callB call_isiX (by rfl) T.isinstance (by decide +kernel) (pa_cons (pv 0) (pa_cons (pe_glob (v := V.ref _) rfl T.mTakenName rfl) pa_nil))) (pa_cons (pe_callB call_isiX (by rfl) T.isinstance (by decide +kernel) (pa_cons (pv 0) (pa_cons (pe_glob (v := V.ref _) rfl T.mNotKept rfl) pa_nil))) pa_nil))))))
  (pss_one (ps_ret (pe_op op_cat (pv 1) (pe_lst (pa_cons (pe_callB call_isiX (by rfl) T.isinstance (by decide +kernel) (pa_cons (pv 0) (pa_cons (pe_glob (v := V.ref _) rfl T.mNothingToUndo rfl) pa_nil))) (pa_cons (pe_callB call_isiX (by rfl) T.isinstance (by decide +kernel) (pa_cons (pv 0) (pa_cons (pe_glob (v := V.ref _) rfl T.mNothingToRedo rfl) pa_nil))) pa_nil)))))))))), ?_⟩
    refine ⟨_, rfl, e, C k, o, .ref (C 0), .ref (C 0), _, rfl, .own _, x, T.cls k hk, T.kit k 0 hk (by decide), _, rfl, e, C k, o, .ref (C 1), .ref (C 1), _, rfl, .own _, x, T.cls k hk, T.kit k 1 hk (by decide), _, rfl, e, C k, o, .ref (C 2), .ref (C 2), _, rfl, .own _, x, T.cls k hk, T.kit k 2 hk (by decide), _, rfl, e, C k, o, .ref (C 3), .ref (C 3), _, rfl, .own _, x, T.cls k hk, T.kit k 3 hk (by decide), (by show 4 ≤ sizeLine; decide), fun p1 n1 => ?_⟩
    have e1 : upd H p1 (HO.lst [V.bl (decide (k = 0)), V.bl (decide (k = 1)), V.bl (decide (k = 2)), V.bl (decide (k = 3))]) p1 = some (HO.lst [V.bl (decide (k = 0)), V.bl (decide (k = 1)), V.bl (decide (k = 2)), V.bl (decide (k = 3))]) := upd_same
    have s1 : Same H (upd H p1 (HO.lst [V.bl (decide (k = 0)), V.bl (decide (k = 1)), V.bl (decide (k = 2)), V.bl (decide (k = 3))])) := same_upd n1
    generalize upd H p1 (HO.lst [V.bl (decide (k = 0)), V.bl (decide (k = 1)), V.bl (decide (k = 2)), V.bl (decide (k = 3))]) = H1 at e1 s1 ⊢
    have x := x.same s1
    have S := s1
    refine ⟨_, rfl, _, rfl, e, C k, o, .ref (C 4), .ref (C 4), _, rfl, .own _, x, T.cls k hk, T.kit k 4 hk (by decide), _, rfl, e, C k, o, .ref (C 5), .ref (C 5), _, rfl, .own _, x, T.cls k hk, T.kit k 5 hk (by decide), _, rfl, e, C k, o, .ref (C 6), .ref (C 6), _, rfl, .own _, x, T.cls k hk, T.kit k 6 hk (by decide), _, rfl, e, C k, o, .ref (C 7), .ref (C 7), _, rfl, .own _, x, T.cls k hk, T.kit k 7 hk (by decide), (by show 4 ≤ sizeLine; decide), fun p2 n2 => ?_⟩
    have e2 : upd H1 p2 (HO.lst [V.bl (decide (k = 4)), V.bl (decide (k = 5)), V.bl (decide (k = 6)), V.bl (decide (k = 7))]) p2 = some (HO.lst [V.bl (decide (k = 4)), V.bl (decide (k = 5)), V.bl (decide (k = 6)), V.bl (decide (k = 7))]) := upd_same
    have s2 : Same H1 (upd H1 p2 (HO.lst [V.bl (decide (k = 4)), V.bl (decide (k = 5)), V.bl (decide (k = 6)), V.bl (decide (k = 7))])) := same_upd n2
    generalize upd H1 p2 (HO.lst [V.bl (decide (k = 4)), V.bl (decide (k = 5)), V.bl (decide (k = 6)), V.bl (decide (k = 7))]) = H2 at e2 s2 ⊢
    have x := x.same s2
    have a1 := s2 _ _ e1
    have S := S.trans s2
    refine ⟨_, _, _, _, rfl, rfl, a1, e2, (by show 4 + 4 ≤ sizeLine; decide), fun p3 n3 => ?_⟩
    have e3 : upd H2 p3 (HO.lst ([V.bl (decide (k = 0)), V.bl (decide (k = 1)), V.bl (decide (k = 2)), V.bl (decide (k = 3))] ++ [V.bl (decide (k = 4)), V.bl (decide (k = 5)), V.bl (decide (k = 6)), V.bl (decide (k = 7))])) p3 = some (HO.lst [V.bl (decide (k = 0)), V.bl (decide (k = 1)), V.bl (decide (k = 2)), V.bl (decide (k = 3)), V.bl (decide (k = 4)), V.bl (decide (k = 5)), V.bl (decide (k = 6)), V.bl (decide (k = 7))]) := upd_same
    have s3 : Same H2 (upd H2 p3 (HO.lst ([V.bl (decide (k = 0)), V.bl (decide (k = 1)), V.bl (decide (k = 2)), V.bl (decide (k = 3))] ++ [V.bl (decide (k = 4)), V.bl (decide (k = 5)), V.bl (decide (k = 6)), V.bl (decide (k = 7))]))) := same_upd n3
    generalize upd H2 p3 (HO.lst ([V.bl (decide (k = 0)), V.bl (decide (k = 1)), V.bl (decide (k = 2)), V.bl (decide (k = 3))] ++ [V.bl (decide (k = 4)), V.bl (decide (k = 5)), V.bl (decide (k = 6)), V.bl (decide (k = 7))])) = H3 at e3 s3 ⊢
    have x := x.same s3
    have S := S.trans s3
    refine ⟨_, rfl, _, rfl, e, C k, o, .ref (C 8), .ref (C 8), _, rfl, .own _, x, T.cls k hk, T.kit k 8 hk (by decide), _, rfl, e, C k, o, .ref (C 9), .ref (C 9), _, rfl, .own _, x, T.cls k hk, T.kit k 9 hk (by decide), _, rfl, e, C k, o, .ref (C 10), .ref (C 10), _, rfl, .own _, x, T.cls k hk, T.kit k 10 hk (by decide), _, rfl, e, C k, o, .ref (C 11), .ref (C 11), _, rfl, .own _, x, T.cls k hk, T.kit k 11 hk (by decide), (by show 4 ≤ sizeLine; decide), fun p4 n4 => ?_⟩
    have e4 : upd H3 p4 (HO.lst [V.bl (decide (k = 8)), V.bl (decide (k = 9)), V.bl (decide (k = 10)), V.bl (decide (k = 11))]) p4 = some (HO.lst [V.bl (decide (k = 8)), V.bl (decide (k = 9)), V.bl (decide (k = 10)), V.bl (decide (k = 11))]) := upd_same
    have s4 : Same H3 (upd H3 p4 (HO.lst [V.bl (decide (k = 8)), V.bl (decide (k = 9)), V.bl (decide (k = 10)), V.bl (decide (k = 11))])) := same_upd n4
    generalize upd H3 p4 (HO.lst [V.bl (decide (k = 8)), V.bl (decide (k = 9)), V.bl (decide (k = 10)), V.bl (decide (k = 11))]) = H4 at e4 s4 ⊢
    have x := x.same s4
    have a1 := s4 _ _ e3
    have S := S.trans s4
    refine ⟨_, _, _, _, rfl, rfl, a1, e4, (by show 8 + 4 ≤ sizeLine; decide), fun p5 n5 => ?_⟩
    have e5 : upd H4 p5 (HO.lst ([V.bl (decide (k = 0)), V.bl (decide (k = 1)), V.bl (decide (k = 2)), V.bl (decide (k = 3)), V.bl (decide (k = 4)), V.bl (decide (k = 5)), V.bl (decide (k = 6)), V.bl (decide (k = 7))] ++ [V.bl (decide (k = 8)), V.bl (decide (k = 9)), V.bl (decide (k = 10)), V.bl (decide (k = 11))])) p5 = some (HO.lst [V.bl (decide (k = 0)), V.bl (decide (k = 1)), V.bl (decide (k = 2)), V.bl (decide (k = 3)), V.bl (decide (k = 4)), V.bl (decide (k = 5)), V.bl (decide (k = 6)), V.bl (decide (k = 7)), V.bl (decide (k = 8)), V.bl (decide (k = 9)), V.bl (decide (k = 10)), V.bl (decide (k = 11))]) := upd_same
    have s5 : Same H4 (upd H4 p5 (HO.lst ([V.bl (decide (k = 0)), V.bl (decide (k = 1)), V.bl (decide (k = 2)), V.bl (decide (k = 3)), V.bl (decide (k = 4)), V.bl (decide (k = 5)), V.bl (decide (k = 6)), V.bl (decide (k = 7))] ++ [V.bl (decide (k = 8)), V.bl (decide (k = 9)), V.bl (decide (k = 10)), V.bl (decide (k = 11))]))) := same_upd n5
    generalize upd H4 p5 (HO.lst ([V.bl (decide (k = 0)), V.bl (decide (k = 1)), V.bl (decide (k = 2)), V.bl (decide (k = 3)), V.bl (decide (k = 4)), V.bl (decide (k = 5)), V.bl (decide (k = 6)), V.bl (decide (k = 7))] ++ [V.bl (decide (k = 8)), V.bl (decide (k = 9)), V.bl (decide (k = 10)), V.bl (decide (k = 11))])) = H5 at e5 s5 ⊢
    have x := x.same s5
    have S := S.trans s5
    refine ⟨_, rfl, _, rfl, e, C k, o, .ref (C 12), .ref (C 12), _, rfl, .own _, x, T.cls k hk, T.kit k 12 hk (by decide), _, rfl, e, C k, o, .ref (C 13), .ref (C 13), _, rfl, .own _, x, T.cls k hk, T.kit k 13 hk (by decide), _, rfl, e, C k, o, .ref (C 14), .ref (C 14), _, rfl, .own _, x, T.cls k hk, T.kit k 14 hk (by decide), (by show 3 ≤ sizeLine; decide), fun p6 n6 => ?_⟩
    have e6 : upd H5 p6 (HO.lst [V.bl (decide (k = 12)), V.bl (decide (k = 13)), V.bl (decide (k = 14))]) p6 = some (HO.lst [V.bl (decide (k = 12)), V.bl (decide (k = 13)), V.bl (decide (k = 14))]) := upd_same
    have s6 : Same H5 (upd H5 p6 (HO.lst [V.bl (decide (k = 12)), V.bl (decide (k = 13)), V.bl (decide (k = 14))])) := same_upd n6
    generalize upd H5 p6 (HO.lst [V.bl (decide (k = 12)), V.bl (decide (k = 13)), V.bl (decide (k = 14))]) = H6 at e6 s6 ⊢
    have x := x.same s6
    have a1 := s6 _ _ e5
    have S := S.trans s6
    refine ⟨_, _, _, _, rfl, rfl, a1, e6, (by show 12 + 3 ≤ sizeLine; decide), fun p7 n7 => ?_⟩
    have e7 : upd H6 p7 (HO.lst ([V.bl (decide (k = 0)), V.bl (decide (k = 1)), V.bl (decide (k = 2)), V.bl (decide (k = 3)), V.bl (decide (k = 4)), V.bl (decide (k = 5)), V.bl (decide (k = 6)), V.bl (decide (k = 7)), V.bl (decide (k = 8)), V.bl (decide (k = 9)), V.bl (decide (k = 10)), V.bl (decide (k = 11))] ++ [V.bl (decide (k = 12)), V.bl (decide (k = 13)), V.bl (decide (k = 14))])) p7 = some (HO.lst [V.bl (decide (k = 0)), V.bl (decide (k = 1)), V.bl (decide (k = 2)), V.bl (decide (k = 3)), V.bl (decide (k = 4)), V.bl (decide (k = 5)), V.bl (decide (k = 6)), V.bl (decide (k = 7)), V.bl (decide (k = 8)), V.bl (decide (k = 9)), V.bl (decide (k = 10)), V.bl (decide (k = 11)), V.bl (decide (k = 12)), V.bl (decide (k = 13)), V.bl (decide (k = 14))]) := upd_same
    have s7 : Same H6 (upd H6 p7 (HO.lst ([V.bl (decide (k = 0)), V.bl (decide (k = 1)), V.bl (decide (k = 2)), V.bl (decide (k = 3)), V.bl (decide (k = 4)), V.bl (decide (k = 5)), V.bl (decide (k = 6)), V.bl (decide (k = 7)), V.bl (decide (k = 8)), V.bl (decide (k = 9)), V.bl (decide (k = 10)), V.bl (decide (k = 11))] ++ [V.bl (decide (k = 12)), V.bl (decide (k = 13)), V.bl (decide (k = 14))]))) := same_upd n7
    generalize upd H6 p7 (HO.lst ([V.bl (decide (k = 0)), V.bl (decide (k = 1)), V.bl (decide (k = 2)), V.bl (decide (k = 3)), V.bl (decide (k = 4)), V.bl (decide (k = 5)), V.bl (decide (k = 6)), V.bl (decide (k = 7)), V.bl (decide (k = 8)), V.bl (decide (k = 9)), V.bl (decide (k = 10)), V.bl (decide (k = 11))] ++ [V.bl (decide (k = 12)), V.bl (decide (k = 13)), V.bl (decide (k = 14))])) = H7 at e7 s7 ⊢
    have x := x.same s7
    have S := S.trans s7
    refine ⟨_, rfl, _, rfl, e, C k, o, .ref (C 15), .ref (C 15), _, rfl, .own _, x, T.cls k hk, T.kit k 15 hk (by decide), _, rfl, e, C k, o, .ref (C 16), .ref (C 16), _, rfl, .own _, x, T.cls k hk, T.kit k 16 hk (by decide), (by show 2 ≤ sizeLine; decide), fun p8 n8 => ?_⟩
    have e8 : upd H7 p8 (HO.lst [V.bl (decide (k = 15)), V.bl (decide (k = 16))]) p8 = some (HO.lst [V.bl (decide (k = 15)), V.bl (decide (k = 16))]) := upd_same
    have s8 : Same H7 (upd H7 p8 (HO.lst [V.bl (decide (k = 15)), V.bl (decide (k = 16))])) := same_upd n8
    generalize upd H7 p8 (HO.lst [V.bl (decide (k = 15)), V.bl (decide (k = 16))]) = H8 at e8 s8 ⊢
    have x := x.same s8
    have a1 := s8 _ _ e7
    have S := S.trans s8
    refine ⟨_, _, _, _, rfl, rfl, a1, e8, (by show 15 + 2 ≤ sizeLine; decide), fun p9 n9 => ?_⟩
    have e9 : upd H8 p9 (HO.lst ([V.bl (decide (k = 0)), V.bl (decide (k = 1)), V.bl (decide (k = 2)), V.bl (decide (k = 3)), V.bl (decide (k = 4)), V.bl (decide (k = 5)), V.bl (decide (k = 6)), V.bl (decide (k = 7)), V.bl (decide (k = 8)), V.bl (decide (k = 9)), V.bl (decide (k = 10)), V.bl (decide (k = 11)), V.bl (decide (k = 12)), V.bl (decide (k = 13)), V.bl (decide (k = 14))] ++ [V.bl (decide (k = 15)), V.bl (decide (k = 16))])) p9 = some (HO.lst [V.bl (decide (k = 0)), V.bl (decide (k = 1)), V.bl (decide (k = 2)), V.bl (decide (k = 3)), V.bl (decide (k = 4)), V.bl (decide (k = 5)), V.bl (decide (k = 6)), V.bl (decide (k = 7)), V.bl (decide (k = 8)), V.bl (decide (k = 9)), V.bl (decide (k = 10)), V.bl (decide (k = 11)), V.bl (decide (k = 12)), V.bl (decide (k = 13)), V.bl (decide (k = 14)), V.bl (decide (k = 15)), V.bl (decide (k = 16))]) := upd_same
    have s9 : Same H8 (upd H8 p9 (HO.lst ([V.bl (decide (k = 0)), V.bl (decide (k = 1)), V.bl (decide (k = 2)), V.bl (decide (k = 3)), V.bl (decide (k = 4)), V.bl (decide (k = 5)), V.bl (decide (k = 6)), V.bl (decide (k = 7)), V.bl (decide (k = 8)), V.bl (decide (k = 9)), V.bl (decide (k = 10)), V.bl (decide (k = 11)), V.bl (decide (k = 12)), V.bl (decide (k = 13)), V.bl (decide (k = 14))] ++ [V.bl (decide (k = 15)), V.bl (decide (k = 16))]))) := same_upd n9
    generalize upd H8 p9 (HO.lst ([V.bl (decide (k = 0)), V.bl (decide (k = 1)), V.bl (decide (k = 2)), V.bl (decide (k = 3)), V.bl (decide (k = 4)), V.bl (decide (k = 5)), V.bl (decide (k = 6)), V.bl (decide (k = 7)), V.bl (decide (k = 8)), V.bl (decide (k = 9)), V.bl (decide (k = 10)), V.bl (decide (k = 11)), V.bl (decide (k = 12)), V.bl (decide (k = 13)), V.bl (decide (k = 14))] ++ [V.bl (decide (k = 15)), V.bl (decide (k = 16))])) = H9 at e9 s9 ⊢
    have x := x.same s9
    have S := S.trans s9
    exact q _ _ S e9
end
end Vf

set_option maxRecDepth 100000
set_option maxHeartbeats 8000000
namespace Vf
open PySem PySem.Spec PyProof.Rows L2
/-- what each of the errors keeps -/
def specs (a b c : V) : List (Option (List (Str × V))) := [some (fl ["column"] [a]), some (fl ["line", "column"] [a, b]), some (fl ["what", "number"] [a, b]), some (fl ["row"] [a]), some (fl ["low", "high"] [a, b]), some (fl ["name"] [a]), some (fl ["what"] [a]), some (fl ["what", "limit"] [a, b]), some (fl ["what", "number", "limit"] [a, b, c]), none, none, some (fl ["what"] [a]), some (fl ["name"] [a]), some (fl ["name"] [a]), some (fl ["promise", "witness"] [a, b]), none, none]
def ex (l : List Addr) (k : Nat) : Addr := l.getD k 0
def spObjects (C : Nat → Addr) : Sp := fun vs H Q _ => ∃ (a b c : V), vs = [a, b, c] ∧
  ∀ (l : Addr) (es : List Addr) (H' : Hp), Same H H' → es.length = 17 → H' l = some (.lst (es.map V.ref)) → (∀ k, k < 17 → XAt H' (ex es k) (C k) ((specs a b c).getD k none)) → Q (.ref l) H'
theorem same_mk {H H1 : Hp} {a : Addr} {o : HO} (n : H a = none) (k : ∀ b z, b ≠ a → upd H a o b = some z → H1 b = some z) : Same H H1 := fun b z e =>
  k b z (ne_of_none e n) (by rw [upd_ne (ne_of_none e n)]; exact e)
theorem up17 {p : Nat → Prop} (h : p 0 ∧ p 1 ∧ p 2 ∧ p 3 ∧ p 4 ∧ p 5 ∧ p 6 ∧ p 7 ∧ p 8 ∧ p 9 ∧ p 10 ∧ p 11 ∧ p 12 ∧ p 13 ∧ p 14 ∧ p 15 ∧ p 16) : ∀ k, k < 17 → p k := by
  intro k hk
  obtain ⟨h0, h1, h2, h3, h4, h5, h6, h7, h8, h9, h10, h11, h12, h13, h14, h15, h16⟩ := h
  have e : k = 0 ∨ k = 1 ∨ k = 2 ∨ k = 3 ∨ k = 4 ∨ k = 5 ∨ k = 6 ∨ k = 7 ∨ k = 8 ∨ k = 9 ∨ k = 10 ∨ k = 11 ∨ k = 12 ∨ k = 13 ∨ k = 14 ∨ k = 15 ∨ k = 16 := by omega
  rcases e with rfl | rfl | rfl | rfl | rfl | rfl | rfl | rfl | rfl | rfl | rfl | rfl | rfl | rfl | rfl | rfl | rfl <;> assumption
section
variable {P : Program} {w : World} {K : PySem.W.Frag} {mg : Str → Option Value} {base : Heap} {C : Nat → Addr}
abbrev sObjects : Stmt := topS 25
theorem scObjects : FnScope ["_law_a", "_law_b", "_law_c", "_law_first"] ["_law_a", "_law_b", "_law_c"] (defScope sObjects) := ⟨rfl, rfl, rfl, by decide +kernel, rfl, by decide +kernel, by decide +kernel⟩
theorem ok_objects {f : Addr} {fd : FuncData} (F : Fun K "_law_objects" "_law_objects" sObjects f fd) (T : Kls K mg C) (I0 : Ini P w K mg base (C 0) ["column"]) (I1 : Ini P w K mg base (C 1) ["line", "column"]) (I2 : Ini P w K mg base (C 2) ["what", "number"]) (I3 : Ini P w K mg base (C 3) ["row"]) (I4 : Ini P w K mg base (C 4) ["low", "high"]) (I5 : Ini P w K mg base (C 5) ["name"]) (I6 : Ini P w K mg base (C 6) ["what"]) (I7 : Ini P w K mg base (C 7) ["what", "limit"]) (I8 : Ini P w K mg base (C 8) ["what", "number", "limit"]) (I11 : Ini P w K mg base (C 11) ["what"]) (I12 : Ini P w K mg base (C 12) ["name"]) (I13 : Ini P w K mg base (C 13) ["name"]) (I14 : Ini P w K mg base (C 14) ["promise", "witness"]) : FnOk P w K mg base CX0 3 f fd ["_law_a", "_law_b", "_law_c"] (spObjects C) := by
  refine F.ok scObjects (fun vs H Q E h => ?_) (fun cdv A outer s H0 vs Q E hr h => ?_)
  · obtain ⟨a, b, c, rfl, _⟩ := h
    rfl
  · obtain ⟨a, b, c, rfl, k⟩ := h
    refine ⟨_, (pss_cons (ps_set (i := 3) scObjects.nd rfl (Or.inl rfl) (pe_lst (pa_cons (pe_mkv I0.ox I0.iC I0.tI I0.ok hr I0.b (by rfl) T.mBadText (pa_cons (pv 0) pa_nil)) (pa_cons (pe_mkv I1.ox I1.iC I1.tI I1.ok hr I1.b (by rfl) T.mBadLine (pa_cons (pv 0) (pa_cons (pv 1) pa_nil))) (pa_cons (pe_mkv I2.ox I2.iC I2.tI I2.ok hr I2.b (by rfl) T.mBadNumber (pa_cons (pv 0) (pa_cons (pv 1) pa_nil))) (pa_cons (pe_mkv I3.ox I3.iC I3.tI I3.ok hr I3.b (by rfl) T.mBadRow (pa_cons (pv 0) pa_nil)) (pa_cons (pe_mkv I4.ox I4.iC I4.tI I4.ok hr I4.b (by rfl) T.mBadInterval (pa_cons (pv 0) (pa_cons (pv 1) pa_nil))) (pa_cons (pe_mkv I5.ox I5.iC I5.tI I5.ok hr I5.b (by rfl) T.mBadName (pa_cons (pv 0) pa_nil)) (pa_cons (pe_mkv I6.ox I6.iC I6.tI I6.ok hr I6.b (by rfl) T.mUnlike (pa_cons (pv 0) pa_nil)) pa_nil)))))))))
  (pss_cons (ps_set (i := 3) scObjects.nd rfl (Or.inl rfl) (pe_op op_cat (pv 3) (pe_lst (pa_cons (pe_mkv I7.ox I7.iC I7.tI I7.ok hr I7.b (by rfl) T.mTooMany (pa_cons (pv 0) (pa_cons (pv 1) pa_nil))) (pa_cons (pe_mkv I8.ox I8.iC I8.tI I8.ok hr I8.b (by rfl) T.mTooLarge (pa_cons (pv 0) (pa_cons (pv 1) (pa_cons (pv 2) pa_nil)))) (pa_cons (pe_mk0 T.xTooWide T.kTooWide (by rfl) T.mTooWide) (pa_cons (pe_mk0 T.xPole T.kPole (by rfl) T.mPole) (pa_cons (pe_mkv I11.ox I11.iC I11.tI I11.ok hr I11.b (by rfl) T.mFewer (pa_cons (pv 0) pa_nil)) (pa_cons (pe_mkv I12.ox I12.iC I12.tI I12.ok hr I12.b (by rfl) T.mNoName (pa_cons (pv 0) pa_nil)) (pa_cons (pe_mkv I13.ox I13.iC I13.tI I13.ok hr I13.b (by rfl) T.mTakenName (pa_cons (pv 0) pa_nil)) pa_nil))))))))))
  (pss_one (ps_ret (pe_op op_cat (pv 3) (pe_lst (pa_cons (pe_mkv I14.ox I14.iC I14.tI I14.ok hr I14.b (by rfl) T.mNotKept (pa_cons (pv 0) (pa_cons (pv 1) pa_nil))) (pa_cons (pe_mk0 T.xNothingToUndo T.kNothingToUndo (by rfl) T.mNothingToUndo) (pa_cons (pe_mk0 T.xNothingToRedo T.kNothingToRedo (by rfl) T.mNothingToRedo) pa_nil))))))))), ?_⟩
    refine ⟨_, rfl, (by show 1 ≤ 1000; decide), fun o0 na0 => ⟨o0, [a], rfl, rfl, upd_same, fun d0 H1 nd0 ne0 ea0 ed0 k0 => ⟨rfl, ?_⟩⟩⟩
    have s1 : Same H0 H1 := same_mk na0 k0
    have x0 : XAt H1 o0 (C 0) (some (fl ["column"] [a])) := ⟨d0, ea0, ed0⟩
    refine ⟨_, rfl, _, rfl, (by show 2 ≤ 1000; decide), fun o1 na1 => ⟨o1, [a, b], rfl, rfl, upd_same, fun d1 H2 nd1 ne1 ea1 ed1 k1 => ⟨rfl, ?_⟩⟩⟩
    have s2 : Same H1 H2 := same_mk na1 k1
    have x1 : XAt H2 o1 (C 1) (some (fl ["line", "column"] [a, b])) := ⟨d1, ea1, ed1⟩
    refine ⟨_, rfl, _, rfl, (by show 2 ≤ 1000; decide), fun o2 na2 => ⟨o2, [a, b], rfl, rfl, upd_same, fun d2 H3 nd2 ne2 ea2 ed2 k2 => ⟨rfl, ?_⟩⟩⟩
    have s3 : Same H2 H3 := same_mk na2 k2
    have x2 : XAt H3 o2 (C 2) (some (fl ["what", "number"] [a, b])) := ⟨d2, ea2, ed2⟩
    refine ⟨_, rfl, (by show 1 ≤ 1000; decide), fun o3 na3 => ⟨o3, [a], rfl, rfl, upd_same, fun d3 H4 nd3 ne3 ea3 ed3 k3 => ⟨rfl, ?_⟩⟩⟩
    have s4 : Same H3 H4 := same_mk na3 k3
    have x3 : XAt H4 o3 (C 3) (some (fl ["row"] [a])) := ⟨d3, ea3, ed3⟩
    refine ⟨_, rfl, _, rfl, (by show 2 ≤ 1000; decide), fun o4 na4 => ⟨o4, [a, b], rfl, rfl, upd_same, fun d4 H5 nd4 ne4 ea4 ed4 k4 => ⟨rfl, ?_⟩⟩⟩
    have s5 : Same H4 H5 := same_mk na4 k4
    have x4 : XAt H5 o4 (C 4) (some (fl ["low", "high"] [a, b])) := ⟨d4, ea4, ed4⟩
    refine ⟨_, rfl, (by show 1 ≤ 1000; decide), fun o5 na5 => ⟨o5, [a], rfl, rfl, upd_same, fun d5 H6 nd5 ne5 ea5 ed5 k5 => ⟨rfl, ?_⟩⟩⟩
    have s6 : Same H5 H6 := same_mk na5 k5
    have x5 : XAt H6 o5 (C 5) (some (fl ["name"] [a])) := ⟨d5, ea5, ed5⟩
    refine ⟨_, rfl, (by show 1 ≤ 1000; decide), fun o6 na6 => ⟨o6, [a], rfl, rfl, upd_same, fun d6 H7 nd6 ne6 ea6 ed6 k6 => ⟨rfl, ?_⟩⟩⟩
    have s7 : Same H6 H7 := same_mk na6 k6
    have x6 : XAt H7 o6 (C 6) (some (fl ["what"] [a])) := ⟨d6, ea6, ed6⟩
    refine ⟨(by show 7 ≤ sizeLine; decide), fun p8 n8 => ?_⟩
    have e8 : upd H7 p8 (HO.lst [V.ref o0, V.ref o1, V.ref o2, V.ref o3, V.ref o4, V.ref o5, V.ref o6]) p8 = some (HO.lst [V.ref o0, V.ref o1, V.ref o2, V.ref o3, V.ref o4, V.ref o5, V.ref o6]) := upd_same
    have s8 : Same H7 (upd H7 p8 (HO.lst [V.ref o0, V.ref o1, V.ref o2, V.ref o3, V.ref o4, V.ref o5, V.ref o6])) := same_upd n8
    generalize upd H7 p8 (HO.lst [V.ref o0, V.ref o1, V.ref o2, V.ref o3, V.ref o4, V.ref o5, V.ref o6]) = H8 at e8 s8 ⊢
    refine ⟨_, rfl, _, rfl, _, rfl, (by show 2 ≤ 1000; decide), fun o7 na7 => ⟨o7, [a, b], rfl, rfl, upd_same, fun d7 H9 nd7 ne7 ea7 ed7 k7 => ⟨rfl, ?_⟩⟩⟩
    have s9 : Same H8 H9 := same_mk na7 k7
    have x7 : XAt H9 o7 (C 7) (some (fl ["what", "limit"] [a, b])) := ⟨d7, ea7, ed7⟩
    refine ⟨_, rfl, _, rfl, _, rfl, (by show 3 ≤ 1000; decide), fun o8 na8 => ⟨o8, [a, b, c], rfl, rfl, upd_same, fun d8 H10 nd8 ne8 ea8 ed8 k8 => ⟨rfl, ?_⟩⟩⟩
    have s10 : Same H9 H10 := same_mk na8 k8
    have x8 : XAt H10 o8 (C 8) (some (fl ["what", "number", "limit"] [a, b, c])) := ⟨d8, ea8, ed8⟩
    refine fun o9 na9 => ?_
    have s11 : Same H10 (upd H10 o9 (ExO (.ref (C 9)) o9)) := same_upd na9
    have x9 : XAt (upd H10 o9 (ExO (.ref (C 9)) o9)) o9 (C 9) none := upd_same
    generalize upd H10 o9 (ExO (.ref (C 9)) o9) = H11 at s11 x9 ⊢
    refine fun o10 na10 => ?_
    have s12 : Same H11 (upd H11 o10 (ExO (.ref (C 10)) o10)) := same_upd na10
    have x10 : XAt (upd H11 o10 (ExO (.ref (C 10)) o10)) o10 (C 10) none := upd_same
    generalize upd H11 o10 (ExO (.ref (C 10)) o10) = H12 at s12 x10 ⊢
    refine ⟨_, rfl, (by show 1 ≤ 1000; decide), fun o11 na11 => ⟨o11, [a], rfl, rfl, upd_same, fun d11 H13 nd11 ne11 ea11 ed11 k11 => ⟨rfl, ?_⟩⟩⟩
    have s13 : Same H12 H13 := same_mk na11 k11
    have x11 : XAt H13 o11 (C 11) (some (fl ["what"] [a])) := ⟨d11, ea11, ed11⟩
    refine ⟨_, rfl, (by show 1 ≤ 1000; decide), fun o12 na12 => ⟨o12, [a], rfl, rfl, upd_same, fun d12 H14 nd12 ne12 ea12 ed12 k12 => ⟨rfl, ?_⟩⟩⟩
    have s14 : Same H13 H14 := same_mk na12 k12
    have x12 : XAt H14 o12 (C 12) (some (fl ["name"] [a])) := ⟨d12, ea12, ed12⟩
    refine ⟨_, rfl, (by show 1 ≤ 1000; decide), fun o13 na13 => ⟨o13, [a], rfl, rfl, upd_same, fun d13 H15 nd13 ne13 ea13 ed13 k13 => ⟨rfl, ?_⟩⟩⟩
    have s15 : Same H14 H15 := same_mk na13 k13
    have x13 : XAt H15 o13 (C 13) (some (fl ["name"] [a])) := ⟨d13, ea13, ed13⟩
    refine ⟨(by show 7 ≤ sizeLine; decide), fun p16 n16 => ?_⟩
    have e16 : upd H15 p16 (HO.lst [V.ref o7, V.ref o8, V.ref o9, V.ref o10, V.ref o11, V.ref o12, V.ref o13]) p16 = some (HO.lst [V.ref o7, V.ref o8, V.ref o9, V.ref o10, V.ref o11, V.ref o12, V.ref o13]) := upd_same
    have s16 : Same H15 (upd H15 p16 (HO.lst [V.ref o7, V.ref o8, V.ref o9, V.ref o10, V.ref o11, V.ref o12, V.ref o13])) := same_upd n16
    generalize upd H15 p16 (HO.lst [V.ref o7, V.ref o8, V.ref o9, V.ref o10, V.ref o11, V.ref o12, V.ref o13]) = H16 at e16 s16 ⊢
    refine ⟨_, _, _, _, rfl, rfl, (s16 _ _ (s15 _ _ (s14 _ _ (s13 _ _ (s12 _ _ (s11 _ _ (s10 _ _ (s9 _ _ e8)))))))), e16, (by show 7 + 7 ≤ sizeLine; decide), fun p17 n17 => ?_⟩
    have e17 : upd H16 p17 (HO.lst ([V.ref o0, V.ref o1, V.ref o2, V.ref o3, V.ref o4, V.ref o5, V.ref o6] ++ [V.ref o7, V.ref o8, V.ref o9, V.ref o10, V.ref o11, V.ref o12, V.ref o13])) p17 = some (HO.lst [V.ref o0, V.ref o1, V.ref o2, V.ref o3, V.ref o4, V.ref o5, V.ref o6, V.ref o7, V.ref o8, V.ref o9, V.ref o10, V.ref o11, V.ref o12, V.ref o13]) := upd_same
    have s17 : Same H16 (upd H16 p17 (HO.lst ([V.ref o0, V.ref o1, V.ref o2, V.ref o3, V.ref o4, V.ref o5, V.ref o6] ++ [V.ref o7, V.ref o8, V.ref o9, V.ref o10, V.ref o11, V.ref o12, V.ref o13]))) := same_upd n17
    generalize upd H16 p17 (HO.lst ([V.ref o0, V.ref o1, V.ref o2, V.ref o3, V.ref o4, V.ref o5, V.ref o6] ++ [V.ref o7, V.ref o8, V.ref o9, V.ref o10, V.ref o11, V.ref o12, V.ref o13])) = H17 at e17 s17 ⊢
    refine ⟨_, rfl, _, rfl, _, rfl, (by show 2 ≤ 1000; decide), fun o14 na14 => ⟨o14, [a, b], rfl, rfl, upd_same, fun d14 H18 nd14 ne14 ea14 ed14 k14 => ⟨rfl, ?_⟩⟩⟩
    have s18 : Same H17 H18 := same_mk na14 k14
    have x14 : XAt H18 o14 (C 14) (some (fl ["promise", "witness"] [a, b])) := ⟨d14, ea14, ed14⟩
    refine fun o15 na15 => ?_
    have s19 : Same H18 (upd H18 o15 (ExO (.ref (C 15)) o15)) := same_upd na15
    have x15 : XAt (upd H18 o15 (ExO (.ref (C 15)) o15)) o15 (C 15) none := upd_same
    generalize upd H18 o15 (ExO (.ref (C 15)) o15) = H19 at s19 x15 ⊢
    refine fun o16 na16 => ?_
    have s20 : Same H19 (upd H19 o16 (ExO (.ref (C 16)) o16)) := same_upd na16
    have x16 : XAt (upd H19 o16 (ExO (.ref (C 16)) o16)) o16 (C 16) none := upd_same
    generalize upd H19 o16 (ExO (.ref (C 16)) o16) = H20 at s20 x16 ⊢
    refine ⟨(by show 3 ≤ sizeLine; decide), fun p21 n21 => ?_⟩
    have e21 : upd H20 p21 (HO.lst [V.ref o14, V.ref o15, V.ref o16]) p21 = some (HO.lst [V.ref o14, V.ref o15, V.ref o16]) := upd_same
    have s21 : Same H20 (upd H20 p21 (HO.lst [V.ref o14, V.ref o15, V.ref o16])) := same_upd n21
    generalize upd H20 p21 (HO.lst [V.ref o14, V.ref o15, V.ref o16]) = H21 at e21 s21 ⊢
    refine ⟨_, _, _, _, rfl, rfl, (s21 _ _ (s20 _ _ (s19 _ _ (s18 _ _ e17)))), e21, (by show 14 + 3 ≤ sizeLine; decide), fun p22 n22 => ?_⟩
    have e22 : upd H21 p22 (HO.lst ([V.ref o0, V.ref o1, V.ref o2, V.ref o3, V.ref o4, V.ref o5, V.ref o6, V.ref o7, V.ref o8, V.ref o9, V.ref o10, V.ref o11, V.ref o12, V.ref o13] ++ [V.ref o14, V.ref o15, V.ref o16])) p22 = some (HO.lst [V.ref o0, V.ref o1, V.ref o2, V.ref o3, V.ref o4, V.ref o5, V.ref o6, V.ref o7, V.ref o8, V.ref o9, V.ref o10, V.ref o11, V.ref o12, V.ref o13, V.ref o14, V.ref o15, V.ref o16]) := upd_same
    have s22 : Same H21 (upd H21 p22 (HO.lst ([V.ref o0, V.ref o1, V.ref o2, V.ref o3, V.ref o4, V.ref o5, V.ref o6, V.ref o7, V.ref o8, V.ref o9, V.ref o10, V.ref o11, V.ref o12, V.ref o13] ++ [V.ref o14, V.ref o15, V.ref o16]))) := same_upd n22
    generalize upd H21 p22 (HO.lst ([V.ref o0, V.ref o1, V.ref o2, V.ref o3, V.ref o4, V.ref o5, V.ref o6, V.ref o7, V.ref o8, V.ref o9, V.ref o10, V.ref o11, V.ref o12, V.ref o13] ++ [V.ref o14, V.ref o15, V.ref o16])) = H22 at e22 s22 ⊢
    have t22 : Same H22 H22 := Same.refl _
    have t21 : Same H21 H22 := s22.trans t22
    have t20 : Same H20 H22 := s21.trans t21
    have t19 : Same H19 H22 := s20.trans t20
    have t18 : Same H18 H22 := s19.trans t19
    have t17 : Same H17 H22 := s18.trans t18
    have t16 : Same H16 H22 := s17.trans t17
    have t15 : Same H15 H22 := s16.trans t16
    have t14 : Same H14 H22 := s15.trans t15
    have t13 : Same H13 H22 := s14.trans t14
    have t12 : Same H12 H22 := s13.trans t13
    have t11 : Same H11 H22 := s12.trans t12
    have t10 : Same H10 H22 := s11.trans t11
    have t9 : Same H9 H22 := s10.trans t10
    have t8 : Same H8 H22 := s9.trans t9
    have t7 : Same H7 H22 := s8.trans t8
    have t6 : Same H6 H22 := s7.trans t7
    have t5 : Same H5 H22 := s6.trans t6
    have t4 : Same H4 H22 := s5.trans t5
    have t3 : Same H3 H22 := s4.trans t4
    have t2 : Same H2 H22 := s3.trans t3
    have t1 : Same H1 H22 := s2.trans t2
    have t0 : Same H0 H22 := s1.trans t1
    refine k p22 [o0, o1, o2, o3, o4, o5, o6, o7, o8, o9, o10, o11, o12, o13, o14, o15, o16] H22 t0 rfl e22 (up17 ⟨x0.same t1, x1.same t2, x2.same t3, x3.same t4, x4.same t5, x5.same t6, x6.same t7, x7.same t9, x8.same t10, x9.same t11, x10.same t12, x11.same t13, x12.same t14, x13.same t15, x14.same t18, x15.same t19, x16.same t20⟩)
end
/-- how many fields each of the errors has -/
def many : List Nat := [1, 2, 2, 1, 2, 1, 1, 2, 3, 0, 0, 1, 1, 1, 2, 0, 0]
def spFields (C : Nat → Addr) : Sp := fun vs H Q _ => ∃ (l : Addr) (es : List Addr) (a b c : V), vs = [.ref l] ∧ es.length = 17 ∧ H l = some (.lst (es.map V.ref)) ∧ (∀ k, k < 17 → XAt H (ex es k) (C k) ((specs a b c).getD k none)) ∧
  ∀ (r : Addr) (ls : List Addr) (H' : Hp), Same H H' → ls.length = 17 → H' r = some (.lst (ls.map V.ref)) → (∀ k, k < 17 → H' (ex ls k) = some (.lst ([a, b, c].take (many.getD k 0)))) → Q (.ref r) H'
section
variable {P : Program} {w : World} {K : PySem.W.Frag} {mg : Str → Option Value} {base : Heap} {C : Nat → Addr}
abbrev sFields : Stmt := topS 26
theorem scFields : FnScope ["_law_row", "_law_first"] ["_law_row"] (defScope sFields) := ⟨rfl, rfl, rfl, by decide +kernel, rfl, by decide +kernel, by decide +kernel⟩
theorem ex_at {es : List Addr} {k : Nat} (h : k < es.length) : (es.map V.ref)[k]? = some (V.ref (ex es k)) := by
  unfold ex
  rw [List.getElem?_map, List.getElem?_eq_getElem h, List.getD_eq_getElem?_getD, List.getElem?_eq_getElem h]
  all_goals rfl
theorem ok_fields {f : Addr} {fd : FuncData} (F : Fun K "_law_fields" "_law_fields" sFields f fd) (T : Kls K mg C) (I0 : Ini P w K mg base (C 0) ["column"]) (I1 : Ini P w K mg base (C 1) ["line", "column"]) (I2 : Ini P w K mg base (C 2) ["what", "number"]) (I3 : Ini P w K mg base (C 3) ["row"]) (I4 : Ini P w K mg base (C 4) ["low", "high"]) (I5 : Ini P w K mg base (C 5) ["name"]) (I6 : Ini P w K mg base (C 6) ["what"]) (I7 : Ini P w K mg base (C 7) ["what", "limit"]) (I8 : Ini P w K mg base (C 8) ["what", "number", "limit"]) (I11 : Ini P w K mg base (C 11) ["what"]) (I12 : Ini P w K mg base (C 12) ["name"]) (I13 : Ini P w K mg base (C 13) ["name"]) (I14 : Ini P w K mg base (C 14) ["promise", "witness"]) : FnOk P w K mg base CX0 1 f fd ["_law_row"] (spFields C) := by
  refine F.ok scFields (fun vs H Q E h => ?_) (fun cdv A outer s H0 vs Q E hr h => ?_)
  · obtain ⟨l, es, a, b, c, rfl, _⟩ := h
    rfl
  · obtain ⟨l, es, a, b, c, rfl, hes, hl, hx, k⟩ := h
    have lk : ∀ {n : Nat} {z : Int}, z = (n : Int) → n < 17 → atI (es.map V.ref) z = some (V.ref (ex es n)) := fun e h => at_of e (ex_at (by rw [hes]; exact h))
    refine ⟨_, (pss_cons (ps_set (i := 1) scFields.nd rfl (Or.inl rfl) (pe_lst (pa_cons (pe_lst (pa_cons (pe_xv (pe_ix ix_list (pv 0) pe_int (fun _ _ => rfl))) pa_nil)) (pa_cons (pe_lst (pa_cons (pe_xv (pe_ix ix_list (pv 0) pe_int (fun _ _ => rfl))) (pa_cons (pe_xv (pe_ix ix_list (pv 0) pe_int (fun _ _ => rfl))) pa_nil))) (pa_cons (pe_lst (pa_cons (pe_xv (pe_ix ix_list (pv 0) pe_int (fun _ _ => rfl))) (pa_cons (pe_xv (pe_ix ix_list (pv 0) pe_int (fun _ _ => rfl))) pa_nil))) (pa_cons (pe_lst (pa_cons (pe_xv (pe_ix ix_list (pv 0) pe_int (fun _ _ => rfl))) pa_nil)) pa_nil))))))
  (pss_cons (ps_set (i := 1) scFields.nd rfl (Or.inl rfl) (pe_op op_cat (pv 1) (pe_lst (pa_cons (pe_lst (pa_cons (pe_xv (pe_ix ix_list (pv 0) pe_int (fun _ _ => rfl))) (pa_cons (pe_xv (pe_ix ix_list (pv 0) pe_int (fun _ _ => rfl))) pa_nil))) (pa_cons (pe_lst (pa_cons (pe_xv (pe_ix ix_list (pv 0) pe_int (fun _ _ => rfl))) pa_nil)) (pa_cons (pe_lst (pa_cons (pe_xv (pe_ix ix_list (pv 0) pe_int (fun _ _ => rfl))) pa_nil)) (pa_cons (pe_lst (pa_cons (pe_xv (pe_ix ix_list (pv 0) pe_int (fun _ _ => rfl))) (pa_cons (pe_xv (pe_ix ix_list (pv 0) pe_int (fun _ _ => rfl))) pa_nil))) pa_nil)))))))
  (pss_cons (ps_set (i := 1) scFields.nd rfl (Or.inl rfl) (pe_op op_cat (pv 1) (pe_lst (pa_cons (pe_lst (pa_cons (pe_xv (pe_ix ix_list (pv 0) pe_int (fun _ _ => rfl))) (pa_cons (pe_xv (pe_ix ix_list (pv 0) pe_int (fun _ _ => rfl))) (pa_cons (pe_xv (pe_ix ix_list (pv 0) pe_int (fun _ _ => rfl))) pa_nil)))) (pa_cons (pe_lst pa_nil) (pa_cons (pe_lst pa_nil) (pa_cons (pe_lst (pa_cons (pe_xv (pe_ix ix_list (pv 0) pe_int (fun _ _ => rfl))) pa_nil)) (pa_cons (pe_lst (pa_cons (pe_xv (pe_ix ix_list (pv 0) pe_int (fun _ _ => rfl))) pa_nil)) pa_nil))))))))
  (pss_one (ps_ret (pe_op op_cat (pv 1) (pe_lst (pa_cons (pe_lst (pa_cons (pe_xv (pe_ix ix_list (pv 0) pe_int (fun _ _ => rfl))) pa_nil)) (pa_cons (pe_lst (pa_cons (pe_xv (pe_ix ix_list (pv 0) pe_int (fun _ _ => rfl))) (pa_cons (pe_xv (pe_ix ix_list (pv 0) pe_int (fun _ _ => rfl))) pa_nil))) (pa_cons (pe_lst pa_nil) (pa_cons (pe_lst pa_nil) pa_nil))))))))))), ?_⟩
    have T0 : Same H0 H0 := Same.refl _
    refine ⟨_, rfl, l, _, _, _, rfl, rfl, SqL.of (T0 _ _ hl), lk (n := 0) rfl (by decide), ex es 0, C 0, _, a, rfl, (hx 0 (by decide)).same T0, T.cls 0 (by decide), I0.no _ (by simp), (by kernel_rfl), (by show 1 ≤ sizeLine; decide), fun p1 n1 => ?_⟩
    have e1 : upd H0 p1 (HO.lst [a]) p1 = some (HO.lst [a]) := upd_same
    have s1 : Same H0 (upd H0 p1 (HO.lst [a])) := same_upd n1
    generalize upd H0 p1 (HO.lst [a]) = H1 at e1 s1 ⊢
    have T1 := T0.trans s1
    refine ⟨_, rfl, l, _, _, _, rfl, rfl, SqL.of (T1 _ _ hl), lk (n := 1) rfl (by decide), ex es 1, C 1, _, a, rfl, (hx 1 (by decide)).same T1, T.cls 1 (by decide), I1.no _ (by simp), (by kernel_rfl), _, rfl, l, _, _, _, rfl, rfl, SqL.of (T1 _ _ hl), lk (n := 1) rfl (by decide), ex es 1, C 1, _, b, rfl, (hx 1 (by decide)).same T1, T.cls 1 (by decide), I1.no _ (by simp), (by kernel_rfl), (by show 2 ≤ sizeLine; decide), fun p2 n2 => ?_⟩
    have e2 : upd H1 p2 (HO.lst [a, b]) p2 = some (HO.lst [a, b]) := upd_same
    have s2 : Same H1 (upd H1 p2 (HO.lst [a, b])) := same_upd n2
    generalize upd H1 p2 (HO.lst [a, b]) = H2 at e2 s2 ⊢
    have T2 := T1.trans s2
    refine ⟨_, rfl, l, _, _, _, rfl, rfl, SqL.of (T2 _ _ hl), lk (n := 2) rfl (by decide), ex es 2, C 2, _, a, rfl, (hx 2 (by decide)).same T2, T.cls 2 (by decide), I2.no _ (by simp), (by kernel_rfl), _, rfl, l, _, _, _, rfl, rfl, SqL.of (T2 _ _ hl), lk (n := 2) rfl (by decide), ex es 2, C 2, _, b, rfl, (hx 2 (by decide)).same T2, T.cls 2 (by decide), I2.no _ (by simp), (by kernel_rfl), (by show 2 ≤ sizeLine; decide), fun p3 n3 => ?_⟩
    have e3 : upd H2 p3 (HO.lst [a, b]) p3 = some (HO.lst [a, b]) := upd_same
    have s3 : Same H2 (upd H2 p3 (HO.lst [a, b])) := same_upd n3
    generalize upd H2 p3 (HO.lst [a, b]) = H3 at e3 s3 ⊢
    have T3 := T2.trans s3
    refine ⟨_, rfl, l, _, _, _, rfl, rfl, SqL.of (T3 _ _ hl), lk (n := 3) rfl (by decide), ex es 3, C 3, _, a, rfl, (hx 3 (by decide)).same T3, T.cls 3 (by decide), I3.no _ (by simp), (by kernel_rfl), (by show 1 ≤ sizeLine; decide), fun p4 n4 => ?_⟩
    have e4 : upd H3 p4 (HO.lst [a]) p4 = some (HO.lst [a]) := upd_same
    have s4 : Same H3 (upd H3 p4 (HO.lst [a])) := same_upd n4
    generalize upd H3 p4 (HO.lst [a]) = H4 at e4 s4 ⊢
    have T4 := T3.trans s4
    refine ⟨(by show 4 ≤ sizeLine; decide), fun p5 n5 => ?_⟩
    have e5 : upd H4 p5 (HO.lst [V.ref p1, V.ref p2, V.ref p3, V.ref p4]) p5 = some (HO.lst [V.ref p1, V.ref p2, V.ref p3, V.ref p4]) := upd_same
    have s5 : Same H4 (upd H4 p5 (HO.lst [V.ref p1, V.ref p2, V.ref p3, V.ref p4])) := same_upd n5
    generalize upd H4 p5 (HO.lst [V.ref p1, V.ref p2, V.ref p3, V.ref p4]) = H5 at e5 s5 ⊢
    have T5 := T4.trans s5
    refine ⟨_, rfl, _, rfl, l, _, _, _, rfl, rfl, SqL.of (T5 _ _ hl), lk (n := 4) rfl (by decide), ex es 4, C 4, _, a, rfl, (hx 4 (by decide)).same T5, T.cls 4 (by decide), I4.no _ (by simp), (by kernel_rfl), _, rfl, l, _, _, _, rfl, rfl, SqL.of (T5 _ _ hl), lk (n := 4) rfl (by decide), ex es 4, C 4, _, b, rfl, (hx 4 (by decide)).same T5, T.cls 4 (by decide), I4.no _ (by simp), (by kernel_rfl), (by show 2 ≤ sizeLine; decide), fun p6 n6 => ?_⟩
    have e6 : upd H5 p6 (HO.lst [a, b]) p6 = some (HO.lst [a, b]) := upd_same
    have s6 : Same H5 (upd H5 p6 (HO.lst [a, b])) := same_upd n6
    generalize upd H5 p6 (HO.lst [a, b]) = H6 at e6 s6 ⊢
    have T6 := T5.trans s6
    refine ⟨_, rfl, l, _, _, _, rfl, rfl, SqL.of (T6 _ _ hl), lk (n := 5) rfl (by decide), ex es 5, C 5, _, a, rfl, (hx 5 (by decide)).same T6, T.cls 5 (by decide), I5.no _ (by simp), (by kernel_rfl), (by show 1 ≤ sizeLine; decide), fun p7 n7 => ?_⟩
    have e7 : upd H6 p7 (HO.lst [a]) p7 = some (HO.lst [a]) := upd_same
    have s7 : Same H6 (upd H6 p7 (HO.lst [a])) := same_upd n7
    generalize upd H6 p7 (HO.lst [a]) = H7 at e7 s7 ⊢
    have T7 := T6.trans s7
    refine ⟨_, rfl, l, _, _, _, rfl, rfl, SqL.of (T7 _ _ hl), lk (n := 6) rfl (by decide), ex es 6, C 6, _, a, rfl, (hx 6 (by decide)).same T7, T.cls 6 (by decide), I6.no _ (by simp), (by kernel_rfl), (by show 1 ≤ sizeLine; decide), fun p8 n8 => ?_⟩
    have e8 : upd H7 p8 (HO.lst [a]) p8 = some (HO.lst [a]) := upd_same
    have s8 : Same H7 (upd H7 p8 (HO.lst [a])) := same_upd n8
    generalize upd H7 p8 (HO.lst [a]) = H8 at e8 s8 ⊢
    have T8 := T7.trans s8
    refine ⟨_, rfl, l, _, _, _, rfl, rfl, SqL.of (T8 _ _ hl), lk (n := 7) rfl (by decide), ex es 7, C 7, _, a, rfl, (hx 7 (by decide)).same T8, T.cls 7 (by decide), I7.no _ (by simp), (by kernel_rfl), _, rfl, l, _, _, _, rfl, rfl, SqL.of (T8 _ _ hl), lk (n := 7) rfl (by decide), ex es 7, C 7, _, b, rfl, (hx 7 (by decide)).same T8, T.cls 7 (by decide), I7.no _ (by simp), (by kernel_rfl), (by show 2 ≤ sizeLine; decide), fun p9 n9 => ?_⟩
    have e9 : upd H8 p9 (HO.lst [a, b]) p9 = some (HO.lst [a, b]) := upd_same
    have s9 : Same H8 (upd H8 p9 (HO.lst [a, b])) := same_upd n9
    generalize upd H8 p9 (HO.lst [a, b]) = H9 at e9 s9 ⊢
    have T9 := T8.trans s9
    refine ⟨(by show 4 ≤ sizeLine; decide), fun p10 n10 => ?_⟩
    have e10 : upd H9 p10 (HO.lst [V.ref p6, V.ref p7, V.ref p8, V.ref p9]) p10 = some (HO.lst [V.ref p6, V.ref p7, V.ref p8, V.ref p9]) := upd_same
    have s10 : Same H9 (upd H9 p10 (HO.lst [V.ref p6, V.ref p7, V.ref p8, V.ref p9])) := same_upd n10
    generalize upd H9 p10 (HO.lst [V.ref p6, V.ref p7, V.ref p8, V.ref p9]) = H10 at e10 s10 ⊢
    have T10 := T9.trans s10
    refine ⟨_, _, _, _, rfl, rfl, (s10 _ _ (s9 _ _ (s8 _ _ (s7 _ _ (s6 _ _ e5))))), e10, (by show 4 + 4 ≤ sizeLine; decide), fun p11 n11 => ?_⟩
    have e11 : upd H10 p11 (HO.lst ([V.ref p1, V.ref p2, V.ref p3, V.ref p4] ++ [V.ref p6, V.ref p7, V.ref p8, V.ref p9])) p11 = some (HO.lst [V.ref p1, V.ref p2, V.ref p3, V.ref p4, V.ref p6, V.ref p7, V.ref p8, V.ref p9]) := upd_same
    have s11 : Same H10 (upd H10 p11 (HO.lst ([V.ref p1, V.ref p2, V.ref p3, V.ref p4] ++ [V.ref p6, V.ref p7, V.ref p8, V.ref p9]))) := same_upd n11
    generalize upd H10 p11 (HO.lst ([V.ref p1, V.ref p2, V.ref p3, V.ref p4] ++ [V.ref p6, V.ref p7, V.ref p8, V.ref p9])) = H11 at e11 s11 ⊢
    have T11 := T10.trans s11
    refine ⟨_, rfl, _, rfl, l, _, _, _, rfl, rfl, SqL.of (T11 _ _ hl), lk (n := 8) rfl (by decide), ex es 8, C 8, _, a, rfl, (hx 8 (by decide)).same T11, T.cls 8 (by decide), I8.no _ (by simp), (by kernel_rfl), _, rfl, l, _, _, _, rfl, rfl, SqL.of (T11 _ _ hl), lk (n := 8) rfl (by decide), ex es 8, C 8, _, b, rfl, (hx 8 (by decide)).same T11, T.cls 8 (by decide), I8.no _ (by simp), (by kernel_rfl), _, rfl, l, _, _, _, rfl, rfl, SqL.of (T11 _ _ hl), lk (n := 8) rfl (by decide), ex es 8, C 8, _, c, rfl, (hx 8 (by decide)).same T11, T.cls 8 (by decide), I8.no _ (by simp), (by kernel_rfl), (by show 3 ≤ sizeLine; decide), fun p12 n12 => ?_⟩
    have e12 : upd H11 p12 (HO.lst [a, b, c]) p12 = some (HO.lst [a, b, c]) := upd_same
    have s12 : Same H11 (upd H11 p12 (HO.lst [a, b, c])) := same_upd n12
    generalize upd H11 p12 (HO.lst [a, b, c]) = H12 at e12 s12 ⊢
    have T12 := T11.trans s12
    refine ⟨(by show 0 ≤ sizeLine; decide), fun p13 n13 => ?_⟩
    have e13 : upd H12 p13 (HO.lst []) p13 = some (HO.lst []) := upd_same
    have s13 : Same H12 (upd H12 p13 (HO.lst [])) := same_upd n13
    generalize upd H12 p13 (HO.lst []) = H13 at e13 s13 ⊢
    have T13 := T12.trans s13
    refine ⟨(by show 0 ≤ sizeLine; decide), fun p14 n14 => ?_⟩
    have e14 : upd H13 p14 (HO.lst []) p14 = some (HO.lst []) := upd_same
    have s14 : Same H13 (upd H13 p14 (HO.lst [])) := same_upd n14
    generalize upd H13 p14 (HO.lst []) = H14 at e14 s14 ⊢
    have T14 := T13.trans s14
    refine ⟨_, rfl, l, _, _, _, rfl, rfl, SqL.of (T14 _ _ hl), lk (n := 11) rfl (by decide), ex es 11, C 11, _, a, rfl, (hx 11 (by decide)).same T14, T.cls 11 (by decide), I11.no _ (by simp), (by kernel_rfl), (by show 1 ≤ sizeLine; decide), fun p15 n15 => ?_⟩
    have e15 : upd H14 p15 (HO.lst [a]) p15 = some (HO.lst [a]) := upd_same
    have s15 : Same H14 (upd H14 p15 (HO.lst [a])) := same_upd n15
    generalize upd H14 p15 (HO.lst [a]) = H15 at e15 s15 ⊢
    have T15 := T14.trans s15
    refine ⟨_, rfl, l, _, _, _, rfl, rfl, SqL.of (T15 _ _ hl), lk (n := 12) rfl (by decide), ex es 12, C 12, _, a, rfl, (hx 12 (by decide)).same T15, T.cls 12 (by decide), I12.no _ (by simp), (by kernel_rfl), (by show 1 ≤ sizeLine; decide), fun p16 n16 => ?_⟩
    have e16 : upd H15 p16 (HO.lst [a]) p16 = some (HO.lst [a]) := upd_same
    have s16 : Same H15 (upd H15 p16 (HO.lst [a])) := same_upd n16
    generalize upd H15 p16 (HO.lst [a]) = H16 at e16 s16 ⊢
    have T16 := T15.trans s16
    refine ⟨(by show 5 ≤ sizeLine; decide), fun p17 n17 => ?_⟩
    have e17 : upd H16 p17 (HO.lst [V.ref p12, V.ref p13, V.ref p14, V.ref p15, V.ref p16]) p17 = some (HO.lst [V.ref p12, V.ref p13, V.ref p14, V.ref p15, V.ref p16]) := upd_same
    have s17 : Same H16 (upd H16 p17 (HO.lst [V.ref p12, V.ref p13, V.ref p14, V.ref p15, V.ref p16])) := same_upd n17
    generalize upd H16 p17 (HO.lst [V.ref p12, V.ref p13, V.ref p14, V.ref p15, V.ref p16]) = H17 at e17 s17 ⊢
    have T17 := T16.trans s17
    refine ⟨_, _, _, _, rfl, rfl, (s17 _ _ (s16 _ _ (s15 _ _ (s14 _ _ (s13 _ _ (s12 _ _ e11)))))), e17, (by show 8 + 5 ≤ sizeLine; decide), fun p18 n18 => ?_⟩
    have e18 : upd H17 p18 (HO.lst ([V.ref p1, V.ref p2, V.ref p3, V.ref p4, V.ref p6, V.ref p7, V.ref p8, V.ref p9] ++ [V.ref p12, V.ref p13, V.ref p14, V.ref p15, V.ref p16])) p18 = some (HO.lst [V.ref p1, V.ref p2, V.ref p3, V.ref p4, V.ref p6, V.ref p7, V.ref p8, V.ref p9, V.ref p12, V.ref p13, V.ref p14, V.ref p15, V.ref p16]) := upd_same
    have s18 : Same H17 (upd H17 p18 (HO.lst ([V.ref p1, V.ref p2, V.ref p3, V.ref p4, V.ref p6, V.ref p7, V.ref p8, V.ref p9] ++ [V.ref p12, V.ref p13, V.ref p14, V.ref p15, V.ref p16]))) := same_upd n18
    generalize upd H17 p18 (HO.lst ([V.ref p1, V.ref p2, V.ref p3, V.ref p4, V.ref p6, V.ref p7, V.ref p8, V.ref p9] ++ [V.ref p12, V.ref p13, V.ref p14, V.ref p15, V.ref p16])) = H18 at e18 s18 ⊢
    have T18 := T17.trans s18
    refine ⟨_, rfl, _, rfl, l, _, _, _, rfl, rfl, SqL.of (T18 _ _ hl), lk (n := 13) rfl (by decide), ex es 13, C 13, _, a, rfl, (hx 13 (by decide)).same T18, T.cls 13 (by decide), I13.no _ (by simp), (by kernel_rfl), (by show 1 ≤ sizeLine; decide), fun p19 n19 => ?_⟩
    have e19 : upd H18 p19 (HO.lst [a]) p19 = some (HO.lst [a]) := upd_same
    have s19 : Same H18 (upd H18 p19 (HO.lst [a])) := same_upd n19
    generalize upd H18 p19 (HO.lst [a]) = H19 at e19 s19 ⊢
    have T19 := T18.trans s19
    refine ⟨_, rfl, l, _, _, _, rfl, rfl, SqL.of (T19 _ _ hl), lk (n := 14) rfl (by decide), ex es 14, C 14, _, a, rfl, (hx 14 (by decide)).same T19, T.cls 14 (by decide), I14.no _ (by simp), (by kernel_rfl), _, rfl, l, _, _, _, rfl, rfl, SqL.of (T19 _ _ hl), lk (n := 14) rfl (by decide), ex es 14, C 14, _, b, rfl, (hx 14 (by decide)).same T19, T.cls 14 (by decide), I14.no _ (by simp), (by kernel_rfl), (by show 2 ≤ sizeLine; decide), fun p20 n20 => ?_⟩
    have e20 : upd H19 p20 (HO.lst [a, b]) p20 = some (HO.lst [a, b]) := upd_same
    have s20 : Same H19 (upd H19 p20 (HO.lst [a, b])) := same_upd n20
    generalize upd H19 p20 (HO.lst [a, b]) = H20 at e20 s20 ⊢
    have T20 := T19.trans s20
    refine ⟨(by show 0 ≤ sizeLine; decide), fun p21 n21 => ?_⟩
    have e21 : upd H20 p21 (HO.lst []) p21 = some (HO.lst []) := upd_same
    have s21 : Same H20 (upd H20 p21 (HO.lst [])) := same_upd n21
    generalize upd H20 p21 (HO.lst []) = H21 at e21 s21 ⊢
    have T21 := T20.trans s21
    refine ⟨(by show 0 ≤ sizeLine; decide), fun p22 n22 => ?_⟩
    have e22 : upd H21 p22 (HO.lst []) p22 = some (HO.lst []) := upd_same
    have s22 : Same H21 (upd H21 p22 (HO.lst [])) := same_upd n22
    generalize upd H21 p22 (HO.lst []) = H22 at e22 s22 ⊢
    have T22 := T21.trans s22
    refine ⟨(by show 4 ≤ sizeLine; decide), fun p23 n23 => ?_⟩
    have e23 : upd H22 p23 (HO.lst [V.ref p19, V.ref p20, V.ref p21, V.ref p22]) p23 = some (HO.lst [V.ref p19, V.ref p20, V.ref p21, V.ref p22]) := upd_same
    have s23 : Same H22 (upd H22 p23 (HO.lst [V.ref p19, V.ref p20, V.ref p21, V.ref p22])) := same_upd n23
    generalize upd H22 p23 (HO.lst [V.ref p19, V.ref p20, V.ref p21, V.ref p22]) = H23 at e23 s23 ⊢
    have T23 := T22.trans s23
    refine ⟨_, _, _, _, rfl, rfl, (s23 _ _ (s22 _ _ (s21 _ _ (s20 _ _ (s19 _ _ e18))))), e23, (by show 13 + 4 ≤ sizeLine; decide), fun p24 n24 => ?_⟩
    have e24 : upd H23 p24 (HO.lst ([V.ref p1, V.ref p2, V.ref p3, V.ref p4, V.ref p6, V.ref p7, V.ref p8, V.ref p9, V.ref p12, V.ref p13, V.ref p14, V.ref p15, V.ref p16] ++ [V.ref p19, V.ref p20, V.ref p21, V.ref p22])) p24 = some (HO.lst [V.ref p1, V.ref p2, V.ref p3, V.ref p4, V.ref p6, V.ref p7, V.ref p8, V.ref p9, V.ref p12, V.ref p13, V.ref p14, V.ref p15, V.ref p16, V.ref p19, V.ref p20, V.ref p21, V.ref p22]) := upd_same
    have s24 : Same H23 (upd H23 p24 (HO.lst ([V.ref p1, V.ref p2, V.ref p3, V.ref p4, V.ref p6, V.ref p7, V.ref p8, V.ref p9, V.ref p12, V.ref p13, V.ref p14, V.ref p15, V.ref p16] ++ [V.ref p19, V.ref p20, V.ref p21, V.ref p22]))) := same_upd n24
    generalize upd H23 p24 (HO.lst ([V.ref p1, V.ref p2, V.ref p3, V.ref p4, V.ref p6, V.ref p7, V.ref p8, V.ref p9, V.ref p12, V.ref p13, V.ref p14, V.ref p15, V.ref p16] ++ [V.ref p19, V.ref p20, V.ref p21, V.ref p22])) = H24 at e24 s24 ⊢
    have T24 := T23.trans s24
    have t24 : Same H24 H24 := Same.refl _
    have t23 : Same H23 H24 := s24.trans t24
    have t22 : Same H22 H24 := s23.trans t23
    have t21 : Same H21 H24 := s22.trans t22
    have t20 : Same H20 H24 := s21.trans t21
    have t19 : Same H19 H24 := s20.trans t20
    have t18 : Same H18 H24 := s19.trans t19
    have t17 : Same H17 H24 := s18.trans t18
    have t16 : Same H16 H24 := s17.trans t17
    have t15 : Same H15 H24 := s16.trans t16
    have t14 : Same H14 H24 := s15.trans t15
    have t13 : Same H13 H24 := s14.trans t14
    have t12 : Same H12 H24 := s13.trans t13
    have t11 : Same H11 H24 := s12.trans t12
    have t10 : Same H10 H24 := s11.trans t11
    have t9 : Same H9 H24 := s10.trans t10
    have t8 : Same H8 H24 := s9.trans t9
    have t7 : Same H7 H24 := s8.trans t8
    have t6 : Same H6 H24 := s7.trans t7
    have t5 : Same H5 H24 := s6.trans t6
    have t4 : Same H4 H24 := s5.trans t5
    have t3 : Same H3 H24 := s4.trans t4
    have t2 : Same H2 H24 := s3.trans t3
    have t1 : Same H1 H24 := s2.trans t2
    have t0 : Same H0 H24 := s1.trans t1
    refine k p24 [p1, p2, p3, p4, p6, p7, p8, p9, p12, p13, p14, p15, p16, p19, p20, p21, p22] H24 t0 rfl e24 (up17 ⟨t1 _ _ e1, t2 _ _ e2, t3 _ _ e3, t4 _ _ e4, t6 _ _ e6, t7 _ _ e7, t8 _ _ e8, t9 _ _ e9, t12 _ _ e12, t13 _ _ e13, t14 _ _ e14, t15 _ _ e15, t16 _ _ e16, t19 _ _ e19, t20 _ _ e20, t21 _ _ e21, t22 _ _ e22⟩)
end
end Vf

set_option maxRecDepth 100000
set_option maxHeartbeats 4000000
/-! sizes of texts of data; walks -/
namespace Vf
open PySem PySem.Spec PyProof.Rows L2
/-- good data: shallow, shown in few signs -/
structure Gd (d : PyData) : Prop where
  sh : d.showable = true
  dp : d.depth ≤ 10
  ln : d.shown.length ≤ 100000
theorem gd_none : Gd .none := ⟨rfl, by decide, by simp only [PyData.shown]; decide⟩
theorem gd_bool (b : Bool) : Gd (.bool b) := ⟨rfl, by simp [PyData.depth], by cases b <;> (simp only [PyData.shown]; decide)⟩
theorem log_small {z : Int} (h : z.natAbs < 2 ^ 1920) : z.natAbs.log2 < 1920 := by
  by_cases e : z.natAbs = 0
  · rw [e]
    decide
  · exact (Nat.log2_lt e).mpr h
theorem gd_int {z : Int} (h : z.natAbs < 2 ^ 1920) : Gd (.int z) := by
  have l := log_small h
  refine ⟨by simp only [PyData.showable, l, decide_true], by simp [PyData.depth], ?_⟩
  simp only [PyData.shown]
  exact Nat.le_trans (int_text_len_1921 l) (by decide)
theorem gd_str {x : Str} (h : ∀ c ∈ x.cps.toList, c < 16 ^ 8) (hl : x.length ≤ 9000) : Gd (.str x) := by
  refine ⟨rfl, by simp [PyData.depth], ?_⟩
  simp only [PyData.shown]
  have q := StrLaws.reprText_len x h
  omega
theorem int_codes (z : Int) : ∀ c ∈ (Str.ofString (toString z)).cps.toList, c < 16 ^ 8 := fun c h => by
  by_cases e : c < 58
  · have : (58 : Nat) < 16 ^ 8 := by decide
    omega
  · exact absurd h (int_text_free' c ⟨by omega, by omega⟩ z)
theorem sum_le_of {l : List Nat} {m : Nat} (h : ∀ x ∈ l, x ≤ m) : l.sum ≤ l.length * m := by
  induction l with
  | nil => simp
  | cons a r ih =>
    have h1 := h a (List.mem_cons_self ..)
    have h2 := ih fun x hx => h x (List.mem_cons_of_mem _ hx)
    rw [List.sum_cons, List.length_cons, Nat.add_mul]
    omega
theorem shownAll_map : ∀ ds : List PyData, PyData.shownAll ds = ds.map PyData.shown
  | [] => by simp only [PyData.shownAll, List.map_nil]
  | d :: r => by simp only [PyData.shownAll, List.map_cons, shownAll_map r]
theorem showableAll_of : ∀ {ds : List PyData}, (∀ d ∈ ds, d.showable = true) → PyData.showableAll ds = true
  | [], _ => by simp only [PyData.showableAll]
  | d :: r, h => by
    simp only [PyData.showableAll, h d (List.mem_cons_self ..), showableAll_of fun x hx => h x (List.mem_cons_of_mem _ hx), Bool.and_self]
theorem depthAll_of {m : Nat} : ∀ {ds : List PyData}, (∀ d ∈ ds, d.depth ≤ m) → PyData.depthAll ds ≤ m
  | [], _ => by simp only [PyData.depthAll]; exact Nat.zero_le _
  | d :: r, h => by
    simp only [PyData.depthAll]
    exact Nat.max_le.mpr ⟨h d (List.mem_cons_self ..), depthAll_of fun x hx => h x (List.mem_cons_of_mem _ hx)⟩
/-- few data, each shown in at most m signs -/
theorem seq_len {ds : List PyData} {m : Nat} (h : ∀ d ∈ ds, d.shown.length ≤ m) : (((PyData.shownAll ds).map (·.length)).sum ≤ ds.length * m) ∧ (PyData.shownAll ds).length = ds.length := by
  rw [shownAll_map]
  refine ⟨?_, by rw [List.length_map]⟩
  have q := sum_le_of (l := ((ds.map PyData.shown).map (·.length))) (m := m) (fun x hx => by
    obtain ⟨s, hs, e⟩ := List.mem_map.mp hx
    obtain ⟨d, hd, e2⟩ := List.mem_map.mp hs
    rw [← e, ← e2]
    exact h d hd)
  rw [List.length_map, List.length_map] at q
  exact q
theorem small_seq {ds : List PyData} {n m : Nat} (hn : ds.length ≤ n) (h1 : ∀ d ∈ ds, d.showable = true) (h2 : ∀ d ∈ ds, d.depth ≤ 60) (h3 : ∀ d ∈ ds, d.shown.length ≤ m) (hz : n * m + 2 * n + 3 ≤ 16777216) : small (.list ds) ∧ small (.tuple ds) := by
  obtain ⟨a, b⟩ := seq_len h3
  have c : ds.length * m ≤ n * m := Nat.mul_le_mul_right _ hn
  have d1 := depthAll_of h2
  refine ⟨⟨by simp only [PyData.showable]; exact showableAll_of h1, by simp only [PyData.depth]; omega, ?_⟩, by simp only [PyData.showable]; exact showableAll_of h1, by simp only [PyData.depth]; omega, ?_⟩
  · simp only [PyData.shown]
    have q := listText_len_le (PyData.shownAll ds)
    rw [sizeLine_eq]
    omega
  · simp only [PyData.shown]
    have q := tupleText_len_le (PyData.shownAll ds)
    rw [sizeLine_eq]
    omega
theorem gd_seq {ds : List PyData} {n m : Nat} (hn : ds.length ≤ n) (h1 : ∀ d ∈ ds, d.showable = true) (h2 : ∀ d ∈ ds, d.depth ≤ 9) (h3 : ∀ d ∈ ds, d.shown.length ≤ m) (hz : n * m + 2 * n + 3 ≤ 100000) : Gd (.list ds) ∧ Gd (.tuple ds) := by
  obtain ⟨a, b⟩ := seq_len h3
  have c : ds.length * m ≤ n * m := Nat.mul_le_mul_right _ hn
  have d1 := depthAll_of h2
  refine ⟨⟨by simp only [PyData.showable]; exact showableAll_of h1, by simp only [PyData.depth]; omega, ?_⟩, by simp only [PyData.showable]; exact showableAll_of h1, by simp only [PyData.depth]; omega, ?_⟩
  · simp only [PyData.shown]
    have q := listText_len_le (PyData.shownAll ds)
    omega
  · simp only [PyData.shown]
    have q := tupleText_len_le (PyData.shownAll ds)
    omega
theorem small_of_gd {ds : List PyData} (hn : ds.length ≤ 100) (h : ∀ d ∈ ds, Gd d) : small (.list ds) ∧ small (.tuple ds) :=
  small_seq hn (fun d hd => (h d hd).sh) (fun d hd => Nat.le_trans (h d hd).dp (by decide)) (fun d hd => (h d hd).ln) (by decide)
theorem Gd.small {d : PyData} (h : Gd d) : small d := ⟨h.sh, Nat.le_trans h.dp (by decide), Nat.le_trans h.ln (by rw [sizeLine_eq]; decide)⟩
theorem gd_dict1 {x : Str} {z : Int} (hx : ∀ c ∈ x.cps.toList, c < 16 ^ 8) (hl : x.length ≤ 1000) (h : z.natAbs < 2 ^ 1920) : Gd (.dict [(.str x, .int z)]) := by
  have l := log_small h
  refine ⟨by simp only [PyData.showable, PyData.showableKv, l, decide_true, Bool.and_self], by simp only [PyData.depth, PyData.depthKv]; decide, ?_⟩
  simp only [PyData.shown, PyData.shownKv]
  have q := dictText_len_le [reprText x ++ ": " ++ (Str.ofString (toString z))]
  have r := StrLaws.reprText_len x hx
  have s := int_text_len_1921 l
  simp only [List.map_cons, List.map_nil, List.sum_cons, List.sum_nil, List.length_cons, List.length_nil, strLen_append] at q
  have t : (Str.ofString ": ").length = 2 := by decide +kernel
  refine Nat.le_trans q ?_
  have t2 : ((": " : String) : Str).length = 2 := t
  omega

/-- for i, x in enumerate(a list) -/
theorem for_enumL {K : PySem.W.Frag} {a : Addr} {xs : List V} {g : TG} {tb : TS} {D : Ends} {σ : L2.St} {H : Hp} (Pv : Nat → L2.St → Hp → Prop) (h0 : Pv 0 σ H) (hq : ∀ i σ H, Pv i σ H → SqL K H a xs)
    (hs : ∀ (i : Nat) (x : V) (T : Addr) (σ : L2.St) (H : Hp), xs[i]? = some x → Pv i σ H → H T = none → g (.ref T) σ (upd H T (.tup [.int (i : Nat), x])) fun σ2 H2 => tb { D with nx := Pv (i + 1), ct := Pv (i + 1), bk := D.nx } σ2 H2) (hd : ∀ σ H, Pv xs.length σ H → D.nx σ H) :
    ∃ W : Nat → Nat → L2.St → Hp → Prop, (∃ m, W 0 m σ H) ∧ ∀ i m σ H, W i m σ H →
      ((Ite K a).stop i H ∧ D.nx σ H) ∨ ((Ite K a).go i H ∧ ∃ N : L2.St → Hp → Prop, (∀ σ' H', N σ' H' → ∃ m', m' < m ∧ W (i + 1) m' σ' H') ∧ ∀ v H', (Ite K a).yld i H v H' → g v σ H' fun σ2 H2 => tb { D with nx := N, ct := N, bk := D.nx } σ2 H2) := by
  refine ⟨fun i m σ H => m + i = xs.length ∧ Pv i σ H, ⟨xs.length, rfl, h0⟩, fun i m σ H ⟨e, p⟩ => ?_⟩
  have q := hq i σ H p
  match m, e with
  | 0, e =>
    have e2 : i = xs.length := by omega
    rw [e2] at p ⊢
    exact .inl ⟨⟨xs, q, Nat.le_refl _⟩, hd σ H p⟩
  | m + 1, e =>
    have lt : i < xs.length := by omega
    refine .inr ⟨⟨xs, xs[i], q, List.getElem?_eq_getElem lt⟩, Pv (i + 1), fun σ' H' p' => ⟨m, Nat.lt_succ_self m, by omega, p'⟩, fun v H' y => ?_⟩
    obtain ⟨T, x, e1, n, e2, hx⟩ := y
    rw [e1, e2]
    exact hs i x T σ H (hx xs q) p n
end Vf

set_option maxRecDepth 100000
set_option maxHeartbeats 8000000
namespace Vf
open PySem PySem.Spec PyProof.Rows L2
/-! ### the law -/
structure Bj (mg : Str → Option Value) : Prop extends Bi mg where
  str : mg "str" = none
  enumerate : mg "enumerate" = none
  zip : mg "zip" = none
  repr : mg "repr" = none
abbrev sLaw : Stmt := topS 27
def nLaw : List Str := ["_law_script", "_law_pen_here", "_law_given", "_law_k", "_law_far_here", "_law_row", "_law_e", "_law_j", "_law_fields_here", "_law_many"]
def spLaw (K : PySem.W.Frag) : Sp := fun vs H Q _ => ∃ (a : Addr) (ns : List Int), vs = [.ref a] ∧ SqL K H a (ns.map V.int) ∧ ns.length ≤ 63 ∧ ∀ H', Q (.bl true) H'
section
variable {P : Program} {w : World} {K : PySem.W.Frag} {mg : Str → Option Value} {base : Heap} {C : Nat → Addr}
theorem scLaw : FnScope nLaw ["_law_script"] (defScope sLaw) := ⟨rfl, rfl, rfl, by decide +kernel, rfl, by decide +kernel, by decide +kernel⟩
theorem same_app {G p : Addr} {H : Hp} {o : HO} : Same (wo G (wo p H)) (wo G (wo p (upd H G o))) := fun b z e => by
  have e1 := wo_sub _ _ e
  have e2 := wo_sub _ _ e1
  have n1 : b ≠ G := fun h => by rw [h] at e; unfold wo at e; rw [if_pos rfl] at e; cases e
  have n2 : b ≠ p := fun h => by rw [h] at e1; unfold wo at e1; rw [if_pos rfl] at e1; cases e1
  exact wo_at n1 (wo_at n2 (by rw [upd_ne n1]; exact e2))
theorem cut_take (a b c : V) {n : Nat} (h : n ≤ 3) : cutV [a, b, c] none (some (n : Int)) = [a, b, c].take n := by
  have e : n = 0 ∨ n = 1 ∨ n = 2 ∨ n = 3 := by omega
  rcases e with rfl | rfl | rfl | rfl <;> rfl
theorem dp_bools {K : PySem.W.Frag} {H : Hp} : ∀ l : List Bool, DpAll K H (l.map V.bl) (l.map PyData.bool)
  | [] => .nil
  | b :: r => .cons (.bl b) (dp_bools r)
theorem bools_flat : ∀ l : List Bool, PyData.canLayAll0 (l.map PyData.bool) = true ∧ PyData.depthAll (l.map PyData.bool) = 0
  | [] => ⟨rfl, rfl⟩
  | b :: r => by
    obtain ⟨h1, h2⟩ := bools_flat r
    refine ⟨?_, ?_⟩
    · simp only [List.map_cons, PyData.canLayAll0, PyData.canLay0, h1, Bool.and_self]
    · simp only [List.map_cons, PyData.depthAll, PyData.depth, h2, Nat.max_self]
theorem bools_lay (l : List Bool) : (PyData.list (l.map PyData.bool)).canLay0 = true := by
  simp only [PyData.canLay0]
  exact (bools_flat l).1
theorem bools_shaped (l : List Bool) : SeqAt.shaped (.list (l.map PyData.bool)) = true := by
  unfold SeqAt.shaped
  rw [bools_lay l]
  simp only [PyData.depth, (bools_flat l).2]
  decide
theorem ok_law {f : Addr} {fd : FuncData} (F : Fun K "law" "law" sLaw f fd) (B : Bj mg) (T : Kls K mg C) (hm1 : M1 base)
    (G_law_pen : Df P w K mg base "_law_pen" 1 ["_law_script"] (spPen K)) (G_law_far : Df P w K mg base "_law_far" 3 ["_law_pen_here"] spFar) (G_law_pick : Df P w K mg base "_law_pick" 2 ["_law_pen_here", "_law_some"] spPick)
    (G_law_objects : Df P w K mg base "_law_objects" 3 ["_law_a", "_law_b", "_law_c"] (spObjects C)) (G_law_kinds : Df P w K mg base "_law_kinds" 1 ["_law_e"] (spKinds C)) (G_law_fields : Df P w K mg base "_law_fields" 1 ["_law_row"] (spFields C)) :
    FnG P w K mg base CX0 5 f fd ["_law_script"] (spLaw K) := by
  refine fnG_of0 F scLaw (fun vs H Q E h => ?_) (fun cdv A outer s H0 vs Q E hgu hr hcd h => ?_)
  · obtain ⟨a, ns, rfl, _⟩ := h
    rfl
  · obtain ⟨a, ns, rfl, hS, hns, k⟩ := h
    have hu64 := hr.units
    obtain ⟨D, mD, kD⟩ := T.ce
    refine ⟨_, (pss_cons (ps_set (i := 1) scLaw.nd rfl (Or.inl rfl) (pe_call G_law_pen.ok (hr.mono (by decide)) rfl G_law_pen.m G_law_pen.kp G_law_pen.b .nil pass0 (pa_cons (pv 0) pa_nil)))
  (pss_cons (ps_set (i := 2) scLaw.nd rfl (Or.inl rfl) (pe_lst pa_nil))
  (pss_cons (ps_for PassesOwn.never rfl (pi_range1 (by rfl) B.range (pa_cons pe_int pa_nil)) (pg_name (i := 3) scLaw.nd rfl (Or.inr rfl))
    (pss_cons (ps_set (i := 4) scLaw.nd rfl (Or.inl rfl) (pe_call G_law_far.ok (hr.mono (by decide)) rfl G_law_far.m G_law_far.kp G_law_far.b .nil pass0 (pa_cons (pv 1) pa_nil)))
    (pss_one (ps_expr (pe_bm PySem.F.plainAttrs_list PySem.F.slot_list_append PySem.F.type_list_append mt_append (pv 2) (pa_cons (pe_call G_law_pick.ok (hr.mono (by decide)) rfl G_law_pick.m G_law_pick.kp G_law_pick.b .nil pass0 (pa_cons (pv 1) (pa_cons (pe_lst (pa_cons (pv 4) (pa_cons (pe_un un_neg (pv 4)) (pa_cons (pe_op op_add_str pe_str (pe_callTy call_str_int (by rfl) B.str (by decide +kernel) (pa_cons (pv 4) pa_nil))) (pa_cons pe_non (pa_cons (pe_tup (pa_cons (pv 4) (pa_cons pe_str pa_nil))) (pa_cons (pe_lst (pa_cons (pv 4) (pa_cons pe_non pa_nil))) (pa_cons pe_bl (pa_cons pe_str (pa_cons (pe_disp (pps_cons pe_str (pv 4) pps_nil) (by rfl) (by rfl) (fun z => by cases z) (by decide)) pa_nil)))))))))) pa_nil))) pa_nil))))))
  (pss_cons (ps_set (i := 5) scLaw.nd rfl (Or.inl rfl) (pe_call G_law_objects.ok (hr.mono (by decide)) rfl G_law_objects.m G_law_objects.kp G_law_objects.b .nil pass0 (pa_cons (pe_ix ix_list (pv 2) pe_int (fun _ _ => rfl)) (pa_cons (pe_ix ix_list (pv 2) pe_int (fun _ _ => rfl)) (pa_cons (pe_ix ix_list (pv 2) pe_int (fun _ _ => rfl)) pa_nil)))))
  (pss_cons (ps_for PassesOwn.never rfl (pi_enum (by rfl) B.enumerate (pa_cons (pv 5) pa_nil)) (pg_tup rfl (pgs_cons (pg_name (i := 3) scLaw.nd rfl (Or.inr rfl)) (pgs_cons (pg_name (i := 6) scLaw.nd rfl (Or.inl rfl)) pgs_nil)))
    (pss_cons (ps_if (PW.pt (pw_or (pt_not (pt_val (pe_callB call_isiX (by rfl) T.isinstance (by decide +kernel) (pa_cons (pv 6) (pa_cons (pe_glob (v := V.ref _) rfl mD rfl) pa_nil))))) (pw_or1 (pt_not (pt_val (pe_callB call_isiX (by rfl) T.isinstance (by decide +kernel) (pa_cons (pv 6) (pa_cons (pe_bltn (v := V.ty "ValueError") (by rfl) T.mVE (by decide +kernel) rfl) pa_nil))))))))
      (pss_one (ps_ret pe_bl))
      pss_nil)
    (pss_one (ps_if (pt_cmpR (op_neD hu64) (pe_call G_law_kinds.ok (hr.mono (by decide)) rfl G_law_kinds.m G_law_kinds.kp G_law_kinds.b .nil pass0 (pa_cons (pv 6) pa_nil)) (pe_lc (own := [("_law_j", 7)]) rfl scLaw.nd (pi_range1 (by rfl) B.range (pa_cons (pe_callB call_len_seq (by rfl) B.len (by decide +kernel) (pa_cons (pv 5) pa_nil)) pa_nil)) (blkOk_by (own := [("_law_j", 7)]) (N := nLaw) (sc := defScope sLaw) (by decide +kernel)) (fun _ _ _ _ _ => pg_name (i := 7) scLaw.nd rfl (Or.inl rfl)) (fun _ _ _ _ _ => pts_nil) (fun _ _ _ _ _ => (pe_cmpR op_eq (pv 7) (pv 3) (nomark _)))) (nomark _))
      (pss_one (ps_ret pe_bl))
      pss_nil))))
  (pss_cons (ps_for PassesOwn.never rfl (pi_zip (by rfl) B.zip (pa_cons (pe_call G_law_fields.ok (hr.mono (by decide)) rfl G_law_fields.m G_law_fields.kp G_law_fields.b .nil pass0 (pa_cons (pv 5) pa_nil)) (pa_cons (pe_lst (pa_cons pe_int (pa_cons pe_int (pa_cons pe_int (pa_cons pe_int (pa_cons pe_int (pa_cons pe_int (pa_cons pe_int (pa_cons pe_int (pa_cons pe_int (pa_cons pe_int (pa_cons pe_int (pa_cons pe_int (pa_cons pe_int (pa_cons pe_int (pa_cons pe_int (pa_cons pe_int (pa_cons pe_int pa_nil)))))))))))))))))) pa_nil))) (pg_tup rfl (pgs_cons (pg_name (i := 8) scLaw.nd rfl (Or.inl rfl)) (pgs_cons (pg_name (i := 9) scLaw.nd rfl (Or.inl rfl)) pgs_nil)))
    (pss_one (ps_if (pt_cmpR op_ne (pe_callB (call_reprD hgu hr hm1) (by rfl) B.repr (by decide +kernel) (pa_cons (pv 8) pa_nil)) (pe_callB (call_reprD hgu hr hm1) (by rfl) B.repr (by decide +kernel) (pa_cons (pe_slice sl_list (pv 2) po_none (po_some (pv 9))) pa_nil)) (nomark _))
      (pss_one (ps_ret pe_bl))
      pss_nil)))
  (pss_one (ps_ret pe_bl)))))))), ?_⟩
    -- the pen, the list
    refine ⟨_, rfl, a, ns, rfl, hS, hns, fun p lc H1 s1 np nlc hP => ?_⟩
    refine ⟨by decide, fun G nG => ?_⟩
    have hGp : G ≠ p := by
      obtain ⟨o, e⟩ := hP.there
      exact (ne_of_none e nG).symm
    have hGl : G ≠ lc := by
      obtain ⟨_, _, _, _, _, g1, _⟩ := hP
      exact (ne_of_none g1.2.1 nG).symm
    refine ⟨3, rfl, by decide, by decide, for_range (lo := 0) (n := 3) (fun i σ H => ∃ (v3 v4 : Option V) (vs : List V) (ds : List PyData), σ = [some (.ref a), some (.ref p), some (.ref G), v3, v4, none, none, none, none, none] ∧
      H G = some (.lst vs) ∧ vs.length = i ∧ Dts K (wo G (wo p H)) vs ds ∧ (∀ d ∈ ds, Gd d) ∧ Pen H p lc (20 * i)) ?_ ?_ ?_⟩
    · exact ⟨none, none, [], [], rfl, upd_same, rfl, .nil, (fun d hd => nomatch hd), (hP.same (same_upd nG)).more (by decide)⟩
    · rintro i σ H hi ⟨v3, v4, vs, ds, rfl, hG, hvl, hD, hgd, hP1⟩
      refine ⟨_, rfl, p, lc, _, rfl, hP1, by omega, fun z H2 z0 z1 hP2 k2 => ?_⟩
      have hz : z.natAbs < 2 ^ 1920 := Nat.lt_of_lt_of_le (by omega : z.natAbs < 10 ^ 18) (by decide +kernel)
      have hG2 := k2 _ _ hGp hG
      refine ⟨_, rfl, .inl ⟨rfl, _, SqL.of hG2⟩, _, rfl, _, rfl, _, rfl, _, rfl, _, rfl, z, rfl, log_small hz, _, _, rfl, rfl, ?_, ?_⟩
      · have q := int_text_len_1921 (log_small hz)
        rw [sizeLine_eq]
        show 1 + (Str.ofString (toString z)).length ≤ 16777216
        omega
      refine ⟨_, rfl, (by show 2 ≤ sizeLine; decide), fun t nt => ?_⟩
      have et : upd H2 t (HO.tup [V.int z, V.str "a"]) t = some (HO.tup [V.int z, V.str "a"]) := upd_same
      have s3 : Same H2 (upd H2 t (HO.tup [V.int z, V.str "a"])) := same_upd nt
      have tp : t ≠ p := by
        obtain ⟨o, e⟩ := hP2.there
        exact (ne_of_none e nt).symm
      have tG : t ≠ G := (ne_of_none hG2 nt).symm
      generalize upd H2 t (HO.tup [V.int z, V.str "a"]) = H3 at et s3 ⊢
      refine ⟨_, rfl, (by show 2 ≤ sizeLine; decide), fun l nl => ?_⟩
      have el : upd H3 l (HO.lst [V.int z, V.non]) l = some (HO.lst [V.int z, V.non]) := upd_same
      have s4 : Same H3 (upd H3 l (HO.lst [V.int z, V.non])) := same_upd nl
      have hG3 := s3 _ _ hG2
      have hP3 := hP2.same s3
      have lp : l ≠ p := by
        obtain ⟨o, e⟩ := hP3.there
        exact (ne_of_none e nl).symm
      have lG : l ≠ G := (ne_of_none hG3 nl).symm
      generalize upd H3 l (HO.lst [V.int z, V.non]) = H4 at el s4 ⊢
      have hG4 := s4 _ _ hG3
      have hP4 := hP3.same s4
      refine fun d nd => ⟨_, rfl, upd_same, [(.inr "a", .int z)], rfl, (by show 1 ≤ 15; decide), ?_⟩
      rw [upd_upd]
      have dp : d ≠ p := by
        obtain ⟨o, e⟩ := hP4.there
        exact (ne_of_none e nd).symm
      have dG : d ≠ G := (ne_of_none hG4 nd).symm
      have ed : upd H4 d (HO.dK (mergeK [] [(.inr "a", .int z)])) d = some (HO.dK [(.inr "a", .int z)]) := upd_same
      have s5 : Same H4 (upd H4 d (HO.dK (mergeK [] [(.inr "a", .int z)]))) := same_upd nd
      generalize upd H4 d (HO.dK (mergeK [] [(.inr "a", .int z)])) = H5 at ed s5 ⊢
      have hG5 := s5 _ _ hG4
      have hP5 := hP4.same s5
      refine ⟨(by show 9 ≤ sizeLine; decide), fun q nq => ?_⟩
      have s6 : ∀ o, Same H5 (upd H5 q o) := fun o => same_upd nq
      have qp : q ≠ p := by
        obtain ⟨o, e⟩ := hP5.there
        exact (ne_of_none e nq).symm
      refine ⟨p, lc, q, _, _, rfl, hP5.same (s6 _), by omega, upd_same, qp, (by show 0 < 9; decide), (by show 9 < 1000000; decide), fun x H7 hx hP7 k7 => ?_⟩
      have k57 : Kp p H5 H7 := (Kp.of (s6 _)).trans k7
      have hG7 := k57 _ _ hGp hG5
      -- what was picked is data
      have dx : ∃ dd, Gd dd ∧ Dt K (wo G (wo p H7)) x dd := by
        have at7 : ∀ {b : Addr} {o : HO}, b ≠ p → b ≠ G → H5 b = some o → wo G (wo p H7) b = some o := fun h1 h2 e => wo_at h2 (wo_at h1 (k57 _ _ h1 e))
        simp only [List.mem_cons, List.not_mem_nil, or_false] at hx
        rcases hx with h | h | h | h | h | h | h | h | h
        · rw [h]
          exact ⟨_, gd_int hz, .int z⟩
        · rw [h]
          exact ⟨_, gd_int (by omega), .int (-z)⟩
        · rw [h]
          refine ⟨_, gd_str (fun c hc => ?_) ?_, .str _⟩
          · have hc2 : c ∈ ("x" : Str).cps.toList ++ (Str.ofString (toString z)).cps.toList := by
              rw [← Array.toList_append]
              exact hc
            rcases List.mem_append.mp hc2 with h | h
            · have e : ("x" : Str).cps.toList = [120] := by decide +kernel
              rw [e] at h
              have e2 : c = 120 := by simpa using h
              rw [e2]
              decide
            · exact int_codes z c h
          · have q := int_text_len_1921 (log_small hz)
            rw [strLen_append]
            have e : ("x" : Str).length = 1 := by decide +kernel
            omega
        · rw [h]
          exact ⟨_, gd_none, .non⟩
        · rw [h]
          have ga : Gd (.str "a") := gd_str (fun c hc => by
            have e : ("a" : Str).cps.toList = [97] := by decide +kernel
            rw [e] at hc
            have e2 : c = 97 := by simpa using hc
            rw [e2]
            decide) (by decide +kernel)
          have gz := gd_int hz
          have hall : ∀ dd ∈ [PyData.int z, PyData.str "a"], dd = PyData.int z ∨ dd = PyData.str "a" := fun dd hd => by simpa using hd
          refine ⟨.tuple [.int z, .str "a"], (gd_seq (ds := [.int z, .str "a"]) (n := 2) (m := 10000) (Nat.le_refl 2) (fun dd hd => ?_) (fun dd hd => ?_) (fun dd hd => ?_) (by decide)).2, .tup (SqT.of (at7 tp tG (s5 _ _ (s4 _ _ et)))) (.cons (.int z) (.cons (.str _) .nil))⟩
          · rcases hall dd hd with h | h <;> rw [h]
            · exact gz.sh
            · exact ga.sh
          · rcases hall dd hd with h | h <;> rw [h] <;> simp [PyData.depth]
          · rcases hall dd hd with h | h <;> rw [h] <;> simp only [PyData.shown]
            · exact Nat.le_trans (int_text_len_1921 (log_small hz)) (by decide)
            · decide +kernel
        · rw [h]
          have gz := gd_int hz
          have hall : ∀ dd ∈ [PyData.int z, PyData.none], dd = PyData.int z ∨ dd = PyData.none := fun dd hd => by simpa using hd
          refine ⟨.list [.int z, .none], (gd_seq (ds := [.int z, .none]) (n := 2) (m := 10000) (Nat.le_refl 2) (fun dd hd => ?_) (fun dd hd => ?_) (fun dd hd => ?_) (by decide)).1, .lst (SqL.of (at7 lp lG (s5 _ _ el))) (.cons (.int z) (.cons .non .nil))⟩
          · rcases hall dd hd with h | h <;> rw [h]
            · exact gz.sh
            · rfl
          · rcases hall dd hd with h | h <;> rw [h] <;> simp [PyData.depth]
          · rcases hall dd hd with h | h <;> rw [h] <;> simp only [PyData.shown]
            · exact Nat.le_trans (int_text_len_1921 (log_small hz)) (by decide)
            · decide +kernel
        · rw [h]
          exact ⟨_, gd_bool true, .bl true⟩
        · rw [h]
          exact ⟨_, gd_str (fun c hc => by
            have e : ("" : Str).cps.toList = [] := by decide +kernel
            rw [e] at hc
            exact nomatch hc) (by decide +kernel), .str _⟩
        · rw [h]
          exact ⟨.dict [(.str "a", .int z)], gd_dict1 (fun c hc => by
            have e : ("a" : Str).cps.toList = [97] := by decide +kernel
            rw [e] at hc
            have e2 : c = 97 := by simpa using hc
            rw [e2]
            decide) (by decide +kernel) hz, .dct (ds := [.int z]) (at7 dp dG ed) (.cons (.int z) .nil)⟩
      obtain ⟨dd, gdd, hdd⟩ := dx
      have D7 : Dts K (wo G (wo p H7)) vs ds := hD.mono (Kp.of (((k2.trans (Kp.of (s3.trans (s4.trans s5)))).trans k57).wo)).wo
      refine ⟨G, vs, x, rfl, rfl, hG7, by rw [hvl]; exact small1000 (by omega), ?_⟩
      exact ⟨_, _, vs ++ [x], ds ++ [dd], rfl, upd_same, by rw [List.length_append, hvl]; rfl, (D7.app (.cons hdd .nil)).mono same_app, fun y hy => (List.mem_append.mp hy).elim (hgd y) (fun h => by
        have e : y = dd := by simpa using h
        rw [e]
        exact gdd), by
          obtain ⟨ns', a', d', c', f', g1, g2⟩ := hP7.more (B' := 20 * ((i + 1 : Nat) : Int)) (by omega)
          exact ⟨ns', a', d', c', f', ⟨by rw [upd_ne hGp.symm]; exact g1.1, by rw [upd_ne hGl.symm]; exact g1.2.1, g1.2.2⟩, g2⟩⟩
    · rintro σ H ⟨v3, v4, vs, ds, rfl, hG, hvl, hD, hgd, hP1⟩
      have hD := hD.mono (wo_sub.trans wo_sub)
      match vs, hvl with
      | [x, y, z], _ =>
      have hdl : ds.length = 3 := hD.len.symm
      refine ⟨_, rfl, G, _, _, _, rfl, rfl, SqL.of hG, at_of (j := 0) rfl rfl, _, rfl, G, _, _, _, rfl, rfl, SqL.of hG, at_of (j := 1) rfl rfl, _, rfl, G, _, _, _, rfl, rfl, SqL.of hG, at_of (j := 2) rfl rfl, x, y, z, rfl, fun l es H2 s2 hes hl hx => ?_⟩
      have hG2 := s2 _ _ hG
      have hD2 := hD.mono s2
      refine ⟨_, rfl, l, _, rfl, SqL.of hl, for_enumL (K := K) (a := l) (xs := es.map V.ref) (fun i σ H3 => ∃ (v3 v6 : Option V), σ = [some (.ref a), some (.ref p), some (.ref G), v3, v4, some (.ref l), v6, none, none, none] ∧ Same H2 H3) ⟨v3, none, rfl, Same.refl _⟩
        (fun i σ H3 ⟨_, _, _, s3⟩ => SqL.of (s3 _ _ hl)) ?_ ?_⟩
      · rintro i v tq σ H3 hi ⟨v3, v6, rfl, s3⟩ nt
        have hi17 : i < 17 := by
          have q := (List.getElem?_eq_some_iff.mp hi).1
          rw [List.length_map, hes] at q
          exact q
        have e := ex_at (es := es) (k := i) (by rw [hes]; exact hi17)
        rw [hi] at e
        have e2 : v = V.ref (ex es i) := Option.some.inj e
        subst e2
        have s4 : Same H3 (upd H3 tq (HO.tup [V.int (i : Nat), V.ref (ex es i)])) := same_upd nt
        have eT : upd H3 tq (HO.tup [V.int (i : Nat), V.ref (ex es i)]) tq = some (HO.tup [V.int (i : Nat), V.ref (ex es i)]) := upd_same
        generalize upd H3 tq (HO.tup [V.int (i : Nat), V.ref (ex es i)]) = H4 at s4 eT ⊢
        have s24 := s3.trans s4
        have xi := (hx i hi17).same s24
        refine ⟨tq, _, rfl, SqT.of eT, rfl, _, _, rfl, _, _, rfl, rfl, ?_⟩
        refine ⟨_, rfl, _, C i, _, .ref D, .ref D, true, rfl, .own _, xi, T.cls i hi17, kD i hi17, _, rfl, ?_⟩
        refine iteF ⟨_, rfl, _, C i, _, .ty "ValueError", .type "ValueError", true, rfl, .ty _, xi, T.cls i hi17, T.ve i hi17, _, rfl, ?_⟩
        refine iteF ?_
        refine ⟨_, rfl, _, i, _, rfl, hi17, xi, fun l1 H5 s5 e5 => ?_⟩
        have hl5 := s5 _ _ (s24 _ _ hl)
        refine ⟨_, rfl, l, _, rfl, .inl (SqL.of hl5), _, rfl, ?_, ?_, ?_⟩
        · rw [List.length_map, hes]; decide
        · rw [List.length_map, hes]; decide
        intro dl ndl
        have hn17 : (((es.map V.ref).length : Nat) : Int).toNat = 17 := by rw [List.length_map, hes]; rfl
        refine lc_range (lo := 0) (n := (((es.map V.ref).length : Nat) : Int).toNat) (fun j H => H = upd H5 dl (.lst ((List.range j).map fun x => V.bl (decide (i = x))))) rfl ?_ ?_
        · rintro j H hj rfl
          refine ⟨rfl, ?_⟩
          refine ⟨_, rfl, _, rfl, rfl, _, upd_same, ?_, ?_⟩
          · rw [List.length_map, List.length_range]
            exact small1000 (by omega)
          · rw [upd_upd, List.range_succ, List.map_append]
            have e : decide (V.int (0 + (j : Int)) = V.int (i : Nat)) = decide (i = j) := by
              by_cases h : i = j
              · rw [decide_eq_true h, decide_eq_true (by rw [h, Int.zero_add])]
              · rw [decide_eq_false h, decide_eq_false (fun z => h (by have z2 := V.int.inj z; omega))]
            show upd H5 dl (HO.lst (_ ++ [V.bl (decide (V.int (0 + (j : Int)) = V.int (i : Nat)))])) = _
            rw [e]
            rfl
        · rintro H rfl
          rw [hn17]
          have nl : l1 ≠ dl := ne_of_none e5 ndl
          have em : ((List.range 17).map fun j => V.bl (decide (i = j))) = (((List.range 17).map fun j => decide (i = j)).map V.bl) := by rw [List.map_map]; rfl
          rw [em] at e5 ⊢
          refine ⟨_, _, .lst (SqL.of (by rw [upd_ne nl]; exact e5)) (dp_bools _), .lst (SqL.of upd_same) (dp_bools _), bools_shaped _, bools_shaped _, _, rfl, ?_⟩
          rw [SeqAt.eqv_refl _ (bools_lay _)]
          refine iteF ?_
          exact ⟨_, _, rfl, s24.trans (s5.trans (same_upd ndl))⟩
      · rintro σ H3 ⟨v3, v6, rfl, s3⟩
        refine ⟨_, rfl, l, es, x, y, z, rfl, hes, s3 _ _ hl, (fun k hk => (hx k hk).same s3), fun r ls H4 s4 hls hr hf => ?_⟩
        refine ⟨(by show 17 ≤ sizeLine; decide), fun q nq => ?_⟩
        have eq : upd H4 q (HO.lst [V.int 1, V.int 2, V.int 2, V.int 1, V.int 2, V.int 1, V.int 1, V.int 2, V.int 3, V.int 0, V.int 0, V.int 1, V.int 1, V.int 1, V.int 2, V.int 0, V.int 0]) q = some (HO.lst (many.map fun n => V.int (n : Nat))) := upd_same
        have s5 : Same H4 (upd H4 q (HO.lst [V.int 1, V.int 2, V.int 2, V.int 1, V.int 2, V.int 1, V.int 1, V.int 2, V.int 3, V.int 0, V.int 0, V.int 1, V.int 1, V.int 1, V.int 2, V.int 0, V.int 0])) := same_upd nq
        generalize upd H4 q (HO.lst [V.int 1, V.int 2, V.int 2, V.int 1, V.int 2, V.int 1, V.int 1, V.int 2, V.int 3, V.int 0, V.int 0, V.int 1, V.int 1, V.int 1, V.int 2, V.int 0, V.int 0]) = H5 at eq s5 ⊢
        have s25 := s3.trans (s4.trans s5)
        refine ⟨r, q, _, _, rfl, SqL.of (s5 _ _ hr), SqL.of eq, RZ.for_zipL (K := K) (a := r) (b := q) (xs := ls.map V.ref) (ys := many.map fun n => V.int (n : Nat)) (by rw [List.length_map, hls]; rfl)
          (fun i σ H6 => ∃ (v8 v9 : Option V), σ = [some (.ref a), some (.ref p), some (.ref G), v3, v4, some (.ref l), v6, none, v8, v9] ∧ Same H5 H6) ⟨none, none, rfl, Same.refl _⟩
          (fun i σ H6 ⟨_, _, _, s6⟩ => ⟨SqL.of (s6 _ _ (s5 _ _ hr)), SqL.of (s6 _ _ eq)⟩) ?_ ?_⟩
        · rintro i u v tq σ H6 hu hv ⟨v8, v9, rfl, s6⟩ nt
          have hi17 : i < 17 := by
            have q := (List.getElem?_eq_some_iff.mp hu).1
            rw [List.length_map, hls] at q
            exact q
          have e := ex_at (es := ls) (k := i) (by rw [hls]; exact hi17)
          rw [hu] at e
          have e2 : u = V.ref (ex ls i) := Option.some.inj e
          subst e2
          obtain ⟨n, hn, hn3, rfl⟩ : ∃ n, many.getD i 0 = n ∧ n ≤ 3 ∧ v = V.int (n : Nat) := by
            rw [List.getElem?_map] at hv
            cases e3 : many[i]? with
            | none =>
              rw [e3] at hv
              cases hv
            | some n =>
              rw [e3] at hv
              refine ⟨n, by rw [List.getD_eq_getElem?_getD, e3]; rfl, ?_, (Option.some.inj hv).symm⟩
              have hm := List.mem_of_getElem? e3
              have hall : ∀ x ∈ many, x ≤ 3 := by decide
              exact hall n hm
          have s7 : Same H6 (upd H6 tq (HO.tup [V.ref (ex ls i), V.int (n : Nat)])) := same_upd nt
          have et : upd H6 tq (HO.tup [V.ref (ex ls i), V.int (n : Nat)]) tq = some (HO.tup [V.ref (ex ls i), V.int (n : Nat)]) := upd_same
          generalize upd H6 tq (HO.tup [V.ref (ex ls i), V.int (n : Nat)]) = H7 at s7 et ⊢
          have s57 := s6.trans s7
          have hfi := s57 _ _ (s5 _ _ (hf i hi17))
          rw [hn] at hfi
          have hD7 := hD2.mono (s25.trans s57)
          have hG7 := (s25.trans s57) _ _ hG2
          have gs : ∀ d ∈ ds.take n, Gd d := fun d hd => hgd d (List.mem_of_mem_take hd)
          have sm := (small_of_gd (ds := ds.take n) (Nat.le_trans (List.length_take_le _ _) (by omega)) gs).1
          refine ⟨tq, _, rfl, SqT.of et, rfl, _, _, rfl, _, _, rfl, rfl, ?_⟩
          refine ⟨_, rfl, _, _, rfl, .lst (SqL.of hfi) (hD7.take n), sm, _, rfl, _, rfl, _, rfl, ?_⟩
          refine ⟨G, _, rfl, SqL.of hG7, fun c nc => ?_⟩
          rw [cut_take x y z hn3]
          have s8 : Same H7 (upd H7 c (HO.lst ([x, y, z].take n))) := same_upd nc
          refine ⟨_, _, rfl, .lst (SqL.of upd_same) ((hD7.take n).mono s8), sm, rfl, _, rfl, ?_⟩
          refine iteNS rfl ?_
          exact ⟨_, _, rfl, s57.trans s8⟩
        · rintro σ H6 ⟨v8, v9, rfl, s6⟩
          exact k H6
end
end Vf

set_option maxRecDepth 100000
set_option maxHeartbeats 4000000
/-! the end of a law's row, from its promise where no guard stands; what the top has written, read off -/
namespace Vf
open PySem PySem.Spec PyProof.Rows L2
/-- what is known of the law's def at the heap behind the top -/
def LawG (l : PySem.W.OpenLaw) (w : World) (K : PySem.W.Frag) (C : CXT) (k n : Nat) (x : Str) (mg : Str → Option Value) (fa : Addr) (h : Heap) : Prop :=
  ∃ (fd : FuncData) (cs : List (Addr × Addr)) (sp : Sp), (∀ p ∈ cs, h.get? p.2 = some { cls := .none, data := .fields #[] }) ∧ (∀ p ∈ cs, K.lookup p.2 = none) ∧ (∀ p ∈ cs, PySem.W.CodeHd h p.1 p.2) ∧
    (∀ (s : Shared) (u : Value), BindsTo s fd ⟨[u], []⟩ [(x, u)]) ∧
    (∀ (H : Hp) (a : Addr) (ns : List Int), ns.length ≤ n → (∀ z ∈ ns, Builtin.Int.intBits z ≤ 1048576) → (∀ p ∈ cs, H p.2 = some (.tbl #[])) → SqL K H a (ns.map V.int) → sp [.ref a] H (fun v _ => v = .bl true) E0) ∧
    ∀ b : Heap, K.In b → b.Ns mainGlobals mg → M1 b → (∀ p ∈ cs, LamX.TabB b mg p.1 p.2) → FnG l.prog w K mg b C k fa fd [x] sp
theorem walkG {l : PySem.W.OpenLaw} {n k : Nat} {q : Program} {loose : List Str} {XP : (Str → Option Value) → Heap → Prop} {YP : World → Heap → Prop} {d : DefRec} {K : Params → PySem.W.Frag} {C : World → CXT} {x : Str}
    (hn : l.most = some n) (hn2 : n ≤ sizeLine) (hdf : d.params.defaults = []) (hr : Room k callerA) (hi : importsNone q = true) (hY : ∀ (w : World) (h : Heap), YP w h → (K w.params).In h)
    (F : ∀ (w : World) (mg : Str → Option Value) (fa : Addr) (h : Heap), YP w h → (K w.params).In h → h.Ns mainGlobals mg → mg d.name = some (.ref fa) → LawG l w (K w.params) (C w) k n x mg fa h)
    (hE : ∀ (w : World) (H : Hp) (s : Shared) (e : Value) (s' : Shared), C w [] H s E0 e s' → False) : PySem.W.WalkO q loose XP YP l.row.toRowW d [] (fun f vs => PySem.call f vs) := by
  refine Att.attach_callB hn hdf fun w s0 s1 mg mb fa o pm cd doc a vs ns G Y ho hd hcd hmg hobj hints hlen hbits hg => ?_
  have X := hY w _ Y
  obtain ⟨fd, cs, sp, hT, nT, hC, bind, hsp, hF⟩ := F w mg fa _ Y X G.T.g hmg
  have m1 : M1 s1.heap := by
    obtain ⟨mm, ⟨o, es, ep, e, dt, _⟩, _⟩ := (G.T.seer hi).mods
    exact ⟨o, es, ep, e, dt⟩
  exact law_enter X G.T.g G.T.b G.T.builtins G.T.nolimit hg hT nT hC G.T.bmain m1 hobj hints (Nat.le_trans hlen hn2) hr hF bind (fun H h1 h2 => hsp H a ns hlen hbits h1 h2) fun H e s' => hE w H s1 e s'

/-- a def of the text, as the written part tells it -/
structure Wr (K : PySem.W.Frag) (qual x : Str) (st : Stmt) (f : Addr) : Prop where
  ex : ∃ fd, Fun K x qual st f fd
theorem wr_mk {K : PySem.W.Frag} {x qual : Str} {st : Stmt} {f : Addr} {oc : Value} {od an : Option Addr} {osl : Array (Option Value)} {kV doc pm cdv ct : Value} (l : K.lookup f = some ⟨oc, od, .func (PySem.W.fnOf x qual (defArgs st) (defBody st) (defScope st) .none kV doc pm an cdv ct), osl⟩)
    (c : PySem.W.codeIn K cdv qual = true) (k : PySem.W.keepIn K (.ref f) = true) : Wr K qual x st f := ⟨_, fun_mk l c k⟩
/-- an exception class, its facts in one look -/
def oexB (K : PySem.W.Frag) (C : Addr) : Bool :=
  decide (PySem.W.findIn K (.ref C) "__setattr__" = some (some (.builtin "object.__setattr__"))) && (decide (PySem.W.subIn K (.ref C) (.type "BaseException") = some true) &&
    (decide (PySem.W.typeIn K (.ref C) = some (.type "type")) && PySem.W.keepIn K (.ref C)))
theorem oexB_ok {K : PySem.W.Frag} {C : Addr} (h : oexB K C = true) (c : ∃ nm q N bs bm sn sub ab col dd k0 k1 k2 k3 k5, K.lookup C = some (excClassObj nm q C N bs bm true sn sub ab col dd k0 k1 k2 k3 k5 "ValueError.__new__") ∧ PySem.HandSPX.refsVE bm = true) : OexC K C := by
  obtain ⟨h1, h⟩ := Bool.and_eq_true_iff.mp h
  obtain ⟨h2, h⟩ := Bool.and_eq_true_iff.mp h
  obtain ⟨h3, h4⟩ := Bool.and_eq_true_iff.mp h
  exact ⟨c, of_decide_eq_true h1, of_decide_eq_true h2, of_decide_eq_true h3, h4⟩
end Vf

set_option maxRecDepth 100000
set_option maxHeartbeats 8000000
namespace Vf
open PySem PySem.Spec PyProof.Rows L2
/-! ### what the top has written -/
def namesOf : List (List Str) := [["column"], ["line", "column"], ["what", "number"], ["row"], ["low", "high"], ["name"], ["what"], ["what", "limit"], ["what", "number", "limit"], [], [], ["what"], ["name"], ["name"], ["promise", "witness"], [], []]
def lookB (K : PySem.W.Frag) (cs : List Addr) (D : Addr) : Bool :=
  cs.all (xcB K) && ((List.range 17).all (fun k => (List.range 17).all fun j => decide (PySem.W.kitOne K (.ref (cs.getD k 0)) (.ref (cs.getD j 0)) = some (decide (k = j)))) &&
  (cs.all (fun c => decide (PySem.W.kitOne K (.ref c) (.ref D) = some true) && decide (PySem.W.kitOne K (.ref c) (.type "ValueError") = some true)) &&
  (List.range 17).all fun k => (namesOf.getD k []).isEmpty || (oexB K (cs.getD k 0) && (namesOf.getD k []).all fun x => decide (PySem.W.findIn K (.ref (cs.getD k 0)) x = some none))))
theorem all_get {α : Type} {p : α → Bool} {cs : List α} {d : α} (h : cs.all p = true) {k : Nat} (hk : k < cs.length) : p (cs.getD k d) = true := by
  rw [List.getD_eq_getElem?_getD, List.getElem?_eq_getElem hk]
  exact List.all_eq_true.mp h _ (List.getElem_mem hk)
structure Looked (K : PySem.W.Frag) (cs : List Addr) (D : Addr) : Prop where
  xc : ∀ k, k < 17 → XC K (cs.getD k 0)
  kit : ∀ k j, k < 17 → j < 17 → PySem.W.kitOne K (.ref (cs.getD k 0)) (.ref (cs.getD j 0)) = some (decide (k = j))
  ce : ∀ k, k < 17 → PySem.W.kitOne K (.ref (cs.getD k 0)) (.ref D) = some true
  ve : ∀ k, k < 17 → PySem.W.kitOne K (.ref (cs.getD k 0)) (.type "ValueError") = some true
  ox : ∀ k, k < 17 → namesOf.getD k [] ≠ [] → oexB K (cs.getD k 0) = true ∧ ∀ x ∈ namesOf.getD k [], PySem.W.findIn K (.ref (cs.getD k 0)) x = some none
theorem looked {K : PySem.W.Frag} {cs : List Addr} {D : Addr} (hl : cs.length = 17) (h : lookB K cs D = true) : Looked K cs D := by
  obtain ⟨h1, h⟩ := Bool.and_eq_true_iff.mp h
  obtain ⟨h2, h⟩ := Bool.and_eq_true_iff.mp h
  obtain ⟨h3, h4⟩ := Bool.and_eq_true_iff.mp h
  have r : ∀ k, k < 17 → k ∈ List.range 17 := fun k hk => List.mem_range.mpr hk
  refine ⟨fun k hk => xcB_ok (all_get h1 (by omega)), fun k j hk hj => ?_, fun k hk => ?_, fun k hk => ?_, fun k hk hn => ?_⟩
  · exact of_decide_eq_true (List.all_eq_true.mp (List.all_eq_true.mp h2 k (r k hk)) j (r j hj))
  · have q := all_get (d := 0) h3 (k := k) (by omega)
    exact of_decide_eq_true (Bool.and_eq_true_iff.mp q).1
  · have q := all_get (d := 0) h3 (k := k) (by omega)
    exact of_decide_eq_true (Bool.and_eq_true_iff.mp q).2
  · have q := List.all_eq_true.mp h4 k (r k hk)
    rcases Bool.or_eq_true_iff.mp q with z | z
    · exact absurd (List.isEmpty_iff.mp z) hn
    · obtain ⟨z1, z2⟩ := Bool.and_eq_true_iff.mp z
      exact ⟨z1, fun x hx => of_decide_eq_true (List.all_eq_true.mp z2 x hx)⟩
theorem all_mk {l : PySem.W.OpenLaw} {w : World} {K : PySem.W.Frag} {h : Heap} {mg : Str → Option Value} {fa : Addr}
    {D C0 C1 C2 C3 C4 C5 C6 C7 C8 C9 C10 C11 C12 C13 C14 C15 C16 i0 i1 i2 i3 i4 i5 i6 i7 i8 i11 i12 i13 i14 f0 f1 f2 f3 f4 f5 f6 f7 : Addr}
    {ocf0 kVf0 dcf0 pmf0 cdf0 ctf0 : Value} {odf0 anf0 : Option Addr} {slf0 : Array (Option Value)}
    {ocf1 kVf1 dcf1 pmf1 cdf1 ctf1 : Value} {odf1 anf1 : Option Addr} {slf1 : Array (Option Value)}
    {ocf2 kVf2 dcf2 pmf2 cdf2 ctf2 : Value} {odf2 anf2 : Option Addr} {slf2 : Array (Option Value)}
    {ocf3 kVf3 dcf3 pmf3 cdf3 ctf3 : Value} {odf3 anf3 : Option Addr} {slf3 : Array (Option Value)}
    {ocf4 kVf4 dcf4 pmf4 cdf4 ctf4 : Value} {odf4 anf4 : Option Addr} {slf4 : Array (Option Value)}
    {ocf5 kVf5 dcf5 pmf5 cdf5 ctf5 : Value} {odf5 anf5 : Option Addr} {slf5 : Array (Option Value)}
    {ocf6 kVf6 dcf6 pmf6 cdf6 ctf6 : Value} {odf6 anf6 : Option Addr} {slf6 : Array (Option Value)}
    {ocf7 kVf7 dcf7 pmf7 cdf7 ctf7 : Value} {odf7 anf7 : Option Addr} {slf7 : Array (Option Value)}
    {oci0 kVi0 dci0 pmi0 cdi0 cti0 : Value} {odi0 ani0 : Option Addr} {sli0 : Array (Option Value)}
    {nm0 qn0 : Str} {N0 : Addr} {bs0 bm0 sub0 : List Value} {sn0 : List Str} {ab0 : Bool} {col0 : Option Bool} {dd0 : Option Addr} {ka0 kb0 kc0 kd0 ke0 : Option Value}
    {oci1 kVi1 dci1 pmi1 cdi1 cti1 : Value} {odi1 ani1 : Option Addr} {sli1 : Array (Option Value)}
    {nm1 qn1 : Str} {N1 : Addr} {bs1 bm1 sub1 : List Value} {sn1 : List Str} {ab1 : Bool} {col1 : Option Bool} {dd1 : Option Addr} {ka1 kb1 kc1 kd1 ke1 : Option Value}
    {oci2 kVi2 dci2 pmi2 cdi2 cti2 : Value} {odi2 ani2 : Option Addr} {sli2 : Array (Option Value)}
    {nm2 qn2 : Str} {N2 : Addr} {bs2 bm2 sub2 : List Value} {sn2 : List Str} {ab2 : Bool} {col2 : Option Bool} {dd2 : Option Addr} {ka2 kb2 kc2 kd2 ke2 : Option Value}
    {oci3 kVi3 dci3 pmi3 cdi3 cti3 : Value} {odi3 ani3 : Option Addr} {sli3 : Array (Option Value)}
    {nm3 qn3 : Str} {N3 : Addr} {bs3 bm3 sub3 : List Value} {sn3 : List Str} {ab3 : Bool} {col3 : Option Bool} {dd3 : Option Addr} {ka3 kb3 kc3 kd3 ke3 : Option Value}
    {oci4 kVi4 dci4 pmi4 cdi4 cti4 : Value} {odi4 ani4 : Option Addr} {sli4 : Array (Option Value)}
    {nm4 qn4 : Str} {N4 : Addr} {bs4 bm4 sub4 : List Value} {sn4 : List Str} {ab4 : Bool} {col4 : Option Bool} {dd4 : Option Addr} {ka4 kb4 kc4 kd4 ke4 : Option Value}
    {oci5 kVi5 dci5 pmi5 cdi5 cti5 : Value} {odi5 ani5 : Option Addr} {sli5 : Array (Option Value)}
    {nm5 qn5 : Str} {N5 : Addr} {bs5 bm5 sub5 : List Value} {sn5 : List Str} {ab5 : Bool} {col5 : Option Bool} {dd5 : Option Addr} {ka5 kb5 kc5 kd5 ke5 : Option Value}
    {oci6 kVi6 dci6 pmi6 cdi6 cti6 : Value} {odi6 ani6 : Option Addr} {sli6 : Array (Option Value)}
    {nm6 qn6 : Str} {N6 : Addr} {bs6 bm6 sub6 : List Value} {sn6 : List Str} {ab6 : Bool} {col6 : Option Bool} {dd6 : Option Addr} {ka6 kb6 kc6 kd6 ke6 : Option Value}
    {oci7 kVi7 dci7 pmi7 cdi7 cti7 : Value} {odi7 ani7 : Option Addr} {sli7 : Array (Option Value)}
    {nm7 qn7 : Str} {N7 : Addr} {bs7 bm7 sub7 : List Value} {sn7 : List Str} {ab7 : Bool} {col7 : Option Bool} {dd7 : Option Addr} {ka7 kb7 kc7 kd7 ke7 : Option Value}
    {oci8 kVi8 dci8 pmi8 cdi8 cti8 : Value} {odi8 ani8 : Option Addr} {sli8 : Array (Option Value)}
    {nm8 qn8 : Str} {N8 : Addr} {bs8 bm8 sub8 : List Value} {sn8 : List Str} {ab8 : Bool} {col8 : Option Bool} {dd8 : Option Addr} {ka8 kb8 kc8 kd8 ke8 : Option Value}
    {oci11 kVi11 dci11 pmi11 cdi11 cti11 : Value} {odi11 ani11 : Option Addr} {sli11 : Array (Option Value)}
    {nm11 qn11 : Str} {N11 : Addr} {bs11 bm11 sub11 : List Value} {sn11 : List Str} {ab11 : Bool} {col11 : Option Bool} {dd11 : Option Addr} {ka11 kb11 kc11 kd11 ke11 : Option Value}
    {oci12 kVi12 dci12 pmi12 cdi12 cti12 : Value} {odi12 ani12 : Option Addr} {sli12 : Array (Option Value)}
    {nm12 qn12 : Str} {N12 : Addr} {bs12 bm12 sub12 : List Value} {sn12 : List Str} {ab12 : Bool} {col12 : Option Bool} {dd12 : Option Addr} {ka12 kb12 kc12 kd12 ke12 : Option Value}
    {oci13 kVi13 dci13 pmi13 cdi13 cti13 : Value} {odi13 ani13 : Option Addr} {sli13 : Array (Option Value)}
    {nm13 qn13 : Str} {N13 : Addr} {bs13 bm13 sub13 : List Value} {sn13 : List Str} {ab13 : Bool} {col13 : Option Bool} {dd13 : Option Addr} {ka13 kb13 kc13 kd13 ke13 : Option Value}
    {oci14 kVi14 dci14 pmi14 cdi14 cti14 : Value} {odi14 ani14 : Option Addr} {sli14 : Array (Option Value)}
    {nm14 qn14 : Str} {N14 : Addr} {bs14 bm14 sub14 : List Value} {sn14 : List Str} {ab14 : Bool} {col14 : Option Bool} {dd14 : Option Addr} {ka14 kb14 kc14 kd14 ke14 : Option Value}
    (X : K.In h) (G : h.Ns mainGlobals mg) (hfa : mg "law" = some (.ref fa))
    (a0 : PySem.W.nsIn K mainGlobals "_law_pen" = some (some (.ref f0)))
    (l0 : K.lookup f0 = some ⟨ocf0, odf0, .func (PySem.W.fnOf "_law_pen" "_law_pen" (defArgs sPen) (defBody sPen) (defScope sPen) .none kVf0 dcf0 pmf0 anf0 cdf0 ctf0), slf0⟩)
    (c0 : PySem.W.codeIn K cdf0 "_law_pen" = true)
    (k0 : PySem.W.keepIn K (.ref f0) = true)
    (a1 : PySem.W.nsIn K mainGlobals "_law_draw" = some (some (.ref f1)))
    (l1 : K.lookup f1 = some ⟨ocf1, odf1, .func (PySem.W.fnOf "_law_draw" "_law_draw" (defArgs sDraw) (defBody sDraw) (defScope sDraw) .none kVf1 dcf1 pmf1 anf1 cdf1 ctf1), slf1⟩)
    (c1 : PySem.W.codeIn K cdf1 "_law_draw" = true)
    (k1 : PySem.W.keepIn K (.ref f1) = true)
    (a2 : PySem.W.nsIn K mainGlobals "_law_pick" = some (some (.ref f2)))
    (l2 : K.lookup f2 = some ⟨ocf2, odf2, .func (PySem.W.fnOf "_law_pick" "_law_pick" (defArgs sPick) (defBody sPick) (defScope sPick) .none kVf2 dcf2 pmf2 anf2 cdf2 ctf2), slf2⟩)
    (c2 : PySem.W.codeIn K cdf2 "_law_pick" = true)
    (k2 : PySem.W.keepIn K (.ref f2) = true)
    (a3 : PySem.W.nsIn K mainGlobals "_law_far" = some (some (.ref f3)))
    (l3 : K.lookup f3 = some ⟨ocf3, odf3, .func (PySem.W.fnOf "_law_far" "_law_far" (defArgs sFar) (defBody sFar) (defScope sFar) .none kVf3 dcf3 pmf3 anf3 cdf3 ctf3), slf3⟩)
    (c3 : PySem.W.codeIn K cdf3 "_law_far" = true)
    (k3 : PySem.W.keepIn K (.ref f3) = true)
    (a4 : PySem.W.nsIn K mainGlobals "_law_kinds" = some (some (.ref f4)))
    (l4 : K.lookup f4 = some ⟨ocf4, odf4, .func (PySem.W.fnOf "_law_kinds" "_law_kinds" (defArgs sKinds) (defBody sKinds) (defScope sKinds) .none kVf4 dcf4 pmf4 anf4 cdf4 ctf4), slf4⟩)
    (c4 : PySem.W.codeIn K cdf4 "_law_kinds" = true)
    (k4 : PySem.W.keepIn K (.ref f4) = true)
    (a5 : PySem.W.nsIn K mainGlobals "_law_objects" = some (some (.ref f5)))
    (l5 : K.lookup f5 = some ⟨ocf5, odf5, .func (PySem.W.fnOf "_law_objects" "_law_objects" (defArgs sObjects) (defBody sObjects) (defScope sObjects) .none kVf5 dcf5 pmf5 anf5 cdf5 ctf5), slf5⟩)
    (c5 : PySem.W.codeIn K cdf5 "_law_objects" = true)
    (k5 : PySem.W.keepIn K (.ref f5) = true)
    (a6 : PySem.W.nsIn K mainGlobals "_law_fields" = some (some (.ref f6)))
    (l6 : K.lookup f6 = some ⟨ocf6, odf6, .func (PySem.W.fnOf "_law_fields" "_law_fields" (defArgs sFields) (defBody sFields) (defScope sFields) .none kVf6 dcf6 pmf6 anf6 cdf6 ctf6), slf6⟩)
    (c6 : PySem.W.codeIn K cdf6 "_law_fields" = true)
    (k6 : PySem.W.keepIn K (.ref f6) = true)
    (a7 : PySem.W.nsIn K mainGlobals "law" = some (some (.ref f7)))
    (l7 : K.lookup f7 = some ⟨ocf7, odf7, .func (PySem.W.fnOf "law" "law" (defArgs sLaw) (defBody sLaw) (defScope sLaw) .none kVf7 dcf7 pmf7 anf7 cdf7 ctf7), slf7⟩)
    (c7 : PySem.W.codeIn K cdf7 "law" = true)
    (k7 : PySem.W.keepIn K (.ref f7) = true)
    (aD : PySem.W.nsIn K mainGlobals "CurveError" = some (some (.ref D)))
    (m0 : PySem.W.nsIn K mainGlobals "BadText" = some (some (.ref C0)))
    (m1 : PySem.W.nsIn K mainGlobals "BadLine" = some (some (.ref C1)))
    (m2 : PySem.W.nsIn K mainGlobals "BadNumber" = some (some (.ref C2)))
    (m3 : PySem.W.nsIn K mainGlobals "BadRow" = some (some (.ref C3)))
    (m4 : PySem.W.nsIn K mainGlobals "BadInterval" = some (some (.ref C4)))
    (m5 : PySem.W.nsIn K mainGlobals "BadName" = some (some (.ref C5)))
    (m6 : PySem.W.nsIn K mainGlobals "Unlike" = some (some (.ref C6)))
    (m7 : PySem.W.nsIn K mainGlobals "TooMany" = some (some (.ref C7)))
    (m8 : PySem.W.nsIn K mainGlobals "TooLarge" = some (some (.ref C8)))
    (m9 : PySem.W.nsIn K mainGlobals "TooWide" = some (some (.ref C9)))
    (m10 : PySem.W.nsIn K mainGlobals "Pole" = some (some (.ref C10)))
    (m11 : PySem.W.nsIn K mainGlobals "Fewer" = some (some (.ref C11)))
    (m12 : PySem.W.nsIn K mainGlobals "NoName" = some (some (.ref C12)))
    (m13 : PySem.W.nsIn K mainGlobals "TakenName" = some (some (.ref C13)))
    (m14 : PySem.W.nsIn K mainGlobals "NotKept" = some (some (.ref C14)))
    (m15 : PySem.W.nsIn K mainGlobals "NothingToUndo" = some (some (.ref C15)))
    (m16 : PySem.W.nsIn K mainGlobals "NothingToRedo" = some (some (.ref C16)))
    (ei0 : PySem.W.findIn K (.ref C0) "__init__" = some (some (.ref i0)))
    (ti0 : PySem.W.typeIn K (.ref i0) = some (.type "function"))
    (li0 : K.lookup i0 = some ⟨oci0, odi0, .func (PySem.W.fnOf "__init__" "BadText.__init__" (defArgs (inClass (topS 2) 0)) (defBody (inClass (topS 2) 0)) (defScope (inClass (topS 2) 0)) .none kVi0 dci0 pmi0 ani0 cdi0 cti0), sli0⟩)
    (ci0 : PySem.W.codeIn K cdi0 "BadText.__init__" = true)
    (ki0 : PySem.W.keepIn K (.ref i0) = true)
    (lc0 : K.lookup C0 = some (excClassObj nm0 qn0 C0 N0 bs0 bm0 true sn0 sub0 ab0 col0 dd0 ka0 kb0 kc0 kd0 ke0 "ValueError.__new__"))
    (lb0 : PySem.HandSPX.refsVE bm0 = true)
    (ei1 : PySem.W.findIn K (.ref C1) "__init__" = some (some (.ref i1)))
    (ti1 : PySem.W.typeIn K (.ref i1) = some (.type "function"))
    (li1 : K.lookup i1 = some ⟨oci1, odi1, .func (PySem.W.fnOf "__init__" "BadLine.__init__" (defArgs (inClass (topS 3) 0)) (defBody (inClass (topS 3) 0)) (defScope (inClass (topS 3) 0)) .none kVi1 dci1 pmi1 ani1 cdi1 cti1), sli1⟩)
    (ci1 : PySem.W.codeIn K cdi1 "BadLine.__init__" = true)
    (ki1 : PySem.W.keepIn K (.ref i1) = true)
    (lc1 : K.lookup C1 = some (excClassObj nm1 qn1 C1 N1 bs1 bm1 true sn1 sub1 ab1 col1 dd1 ka1 kb1 kc1 kd1 ke1 "ValueError.__new__"))
    (lb1 : PySem.HandSPX.refsVE bm1 = true)
    (ei2 : PySem.W.findIn K (.ref C2) "__init__" = some (some (.ref i2)))
    (ti2 : PySem.W.typeIn K (.ref i2) = some (.type "function"))
    (li2 : K.lookup i2 = some ⟨oci2, odi2, .func (PySem.W.fnOf "__init__" "BadNumber.__init__" (defArgs (inClass (topS 4) 0)) (defBody (inClass (topS 4) 0)) (defScope (inClass (topS 4) 0)) .none kVi2 dci2 pmi2 ani2 cdi2 cti2), sli2⟩)
    (ci2 : PySem.W.codeIn K cdi2 "BadNumber.__init__" = true)
    (ki2 : PySem.W.keepIn K (.ref i2) = true)
    (lc2 : K.lookup C2 = some (excClassObj nm2 qn2 C2 N2 bs2 bm2 true sn2 sub2 ab2 col2 dd2 ka2 kb2 kc2 kd2 ke2 "ValueError.__new__"))
    (lb2 : PySem.HandSPX.refsVE bm2 = true)
    (ei3 : PySem.W.findIn K (.ref C3) "__init__" = some (some (.ref i3)))
    (ti3 : PySem.W.typeIn K (.ref i3) = some (.type "function"))
    (li3 : K.lookup i3 = some ⟨oci3, odi3, .func (PySem.W.fnOf "__init__" "BadRow.__init__" (defArgs (inClass (topS 5) 0)) (defBody (inClass (topS 5) 0)) (defScope (inClass (topS 5) 0)) .none kVi3 dci3 pmi3 ani3 cdi3 cti3), sli3⟩)
    (ci3 : PySem.W.codeIn K cdi3 "BadRow.__init__" = true)
    (ki3 : PySem.W.keepIn K (.ref i3) = true)
    (lc3 : K.lookup C3 = some (excClassObj nm3 qn3 C3 N3 bs3 bm3 true sn3 sub3 ab3 col3 dd3 ka3 kb3 kc3 kd3 ke3 "ValueError.__new__"))
    (lb3 : PySem.HandSPX.refsVE bm3 = true)
    (ei4 : PySem.W.findIn K (.ref C4) "__init__" = some (some (.ref i4)))
    (ti4 : PySem.W.typeIn K (.ref i4) = some (.type "function"))
    (li4 : K.lookup i4 = some ⟨oci4, odi4, .func (PySem.W.fnOf "__init__" "BadInterval.__init__" (defArgs (inClass (topS 6) 0)) (defBody (inClass (topS 6) 0)) (defScope (inClass (topS 6) 0)) .none kVi4 dci4 pmi4 ani4 cdi4 cti4), sli4⟩)
    (ci4 : PySem.W.codeIn K cdi4 "BadInterval.__init__" = true)
    (ki4 : PySem.W.keepIn K (.ref i4) = true)
    (lc4 : K.lookup C4 = some (excClassObj nm4 qn4 C4 N4 bs4 bm4 true sn4 sub4 ab4 col4 dd4 ka4 kb4 kc4 kd4 ke4 "ValueError.__new__"))
    (lb4 : PySem.HandSPX.refsVE bm4 = true)
    (ei5 : PySem.W.findIn K (.ref C5) "__init__" = some (some (.ref i5)))
    (ti5 : PySem.W.typeIn K (.ref i5) = some (.type "function"))
    (li5 : K.lookup i5 = some ⟨oci5, odi5, .func (PySem.W.fnOf "__init__" "BadName.__init__" (defArgs (inClass (topS 7) 0)) (defBody (inClass (topS 7) 0)) (defScope (inClass (topS 7) 0)) .none kVi5 dci5 pmi5 ani5 cdi5 cti5), sli5⟩)
    (ci5 : PySem.W.codeIn K cdi5 "BadName.__init__" = true)
    (ki5 : PySem.W.keepIn K (.ref i5) = true)
    (lc5 : K.lookup C5 = some (excClassObj nm5 qn5 C5 N5 bs5 bm5 true sn5 sub5 ab5 col5 dd5 ka5 kb5 kc5 kd5 ke5 "ValueError.__new__"))
    (lb5 : PySem.HandSPX.refsVE bm5 = true)
    (ei6 : PySem.W.findIn K (.ref C6) "__init__" = some (some (.ref i6)))
    (ti6 : PySem.W.typeIn K (.ref i6) = some (.type "function"))
    (li6 : K.lookup i6 = some ⟨oci6, odi6, .func (PySem.W.fnOf "__init__" "Unlike.__init__" (defArgs (inClass (topS 8) 0)) (defBody (inClass (topS 8) 0)) (defScope (inClass (topS 8) 0)) .none kVi6 dci6 pmi6 ani6 cdi6 cti6), sli6⟩)
    (ci6 : PySem.W.codeIn K cdi6 "Unlike.__init__" = true)
    (ki6 : PySem.W.keepIn K (.ref i6) = true)
    (lc6 : K.lookup C6 = some (excClassObj nm6 qn6 C6 N6 bs6 bm6 true sn6 sub6 ab6 col6 dd6 ka6 kb6 kc6 kd6 ke6 "ValueError.__new__"))
    (lb6 : PySem.HandSPX.refsVE bm6 = true)
    (ei7 : PySem.W.findIn K (.ref C7) "__init__" = some (some (.ref i7)))
    (ti7 : PySem.W.typeIn K (.ref i7) = some (.type "function"))
    (li7 : K.lookup i7 = some ⟨oci7, odi7, .func (PySem.W.fnOf "__init__" "TooMany.__init__" (defArgs (inClass (topS 9) 0)) (defBody (inClass (topS 9) 0)) (defScope (inClass (topS 9) 0)) .none kVi7 dci7 pmi7 ani7 cdi7 cti7), sli7⟩)
    (ci7 : PySem.W.codeIn K cdi7 "TooMany.__init__" = true)
    (ki7 : PySem.W.keepIn K (.ref i7) = true)
    (lc7 : K.lookup C7 = some (excClassObj nm7 qn7 C7 N7 bs7 bm7 true sn7 sub7 ab7 col7 dd7 ka7 kb7 kc7 kd7 ke7 "ValueError.__new__"))
    (lb7 : PySem.HandSPX.refsVE bm7 = true)
    (ei8 : PySem.W.findIn K (.ref C8) "__init__" = some (some (.ref i8)))
    (ti8 : PySem.W.typeIn K (.ref i8) = some (.type "function"))
    (li8 : K.lookup i8 = some ⟨oci8, odi8, .func (PySem.W.fnOf "__init__" "TooLarge.__init__" (defArgs (inClass (topS 10) 0)) (defBody (inClass (topS 10) 0)) (defScope (inClass (topS 10) 0)) .none kVi8 dci8 pmi8 ani8 cdi8 cti8), sli8⟩)
    (ci8 : PySem.W.codeIn K cdi8 "TooLarge.__init__" = true)
    (ki8 : PySem.W.keepIn K (.ref i8) = true)
    (lc8 : K.lookup C8 = some (excClassObj nm8 qn8 C8 N8 bs8 bm8 true sn8 sub8 ab8 col8 dd8 ka8 kb8 kc8 kd8 ke8 "ValueError.__new__"))
    (lb8 : PySem.HandSPX.refsVE bm8 = true)
    (ei11 : PySem.W.findIn K (.ref C11) "__init__" = some (some (.ref i11)))
    (ti11 : PySem.W.typeIn K (.ref i11) = some (.type "function"))
    (li11 : K.lookup i11 = some ⟨oci11, odi11, .func (PySem.W.fnOf "__init__" "Fewer.__init__" (defArgs (inClass (topS 13) 0)) (defBody (inClass (topS 13) 0)) (defScope (inClass (topS 13) 0)) .none kVi11 dci11 pmi11 ani11 cdi11 cti11), sli11⟩)
    (ci11 : PySem.W.codeIn K cdi11 "Fewer.__init__" = true)
    (ki11 : PySem.W.keepIn K (.ref i11) = true)
    (lc11 : K.lookup C11 = some (excClassObj nm11 qn11 C11 N11 bs11 bm11 true sn11 sub11 ab11 col11 dd11 ka11 kb11 kc11 kd11 ke11 "ValueError.__new__"))
    (lb11 : PySem.HandSPX.refsVE bm11 = true)
    (ei12 : PySem.W.findIn K (.ref C12) "__init__" = some (some (.ref i12)))
    (ti12 : PySem.W.typeIn K (.ref i12) = some (.type "function"))
    (li12 : K.lookup i12 = some ⟨oci12, odi12, .func (PySem.W.fnOf "__init__" "NoName.__init__" (defArgs (inClass (topS 14) 0)) (defBody (inClass (topS 14) 0)) (defScope (inClass (topS 14) 0)) .none kVi12 dci12 pmi12 ani12 cdi12 cti12), sli12⟩)
    (ci12 : PySem.W.codeIn K cdi12 "NoName.__init__" = true)
    (ki12 : PySem.W.keepIn K (.ref i12) = true)
    (lc12 : K.lookup C12 = some (excClassObj nm12 qn12 C12 N12 bs12 bm12 true sn12 sub12 ab12 col12 dd12 ka12 kb12 kc12 kd12 ke12 "ValueError.__new__"))
    (lb12 : PySem.HandSPX.refsVE bm12 = true)
    (ei13 : PySem.W.findIn K (.ref C13) "__init__" = some (some (.ref i13)))
    (ti13 : PySem.W.typeIn K (.ref i13) = some (.type "function"))
    (li13 : K.lookup i13 = some ⟨oci13, odi13, .func (PySem.W.fnOf "__init__" "TakenName.__init__" (defArgs (inClass (topS 15) 0)) (defBody (inClass (topS 15) 0)) (defScope (inClass (topS 15) 0)) .none kVi13 dci13 pmi13 ani13 cdi13 cti13), sli13⟩)
    (ci13 : PySem.W.codeIn K cdi13 "TakenName.__init__" = true)
    (ki13 : PySem.W.keepIn K (.ref i13) = true)
    (lc13 : K.lookup C13 = some (excClassObj nm13 qn13 C13 N13 bs13 bm13 true sn13 sub13 ab13 col13 dd13 ka13 kb13 kc13 kd13 ke13 "ValueError.__new__"))
    (lb13 : PySem.HandSPX.refsVE bm13 = true)
    (ei14 : PySem.W.findIn K (.ref C14) "__init__" = some (some (.ref i14)))
    (ti14 : PySem.W.typeIn K (.ref i14) = some (.type "function"))
    (li14 : K.lookup i14 = some ⟨oci14, odi14, .func (PySem.W.fnOf "__init__" "NotKept.__init__" (defArgs (inClass (topS 16) 0)) (defBody (inClass (topS 16) 0)) (defScope (inClass (topS 16) 0)) .none kVi14 dci14 pmi14 ani14 cdi14 cti14), sli14⟩)
    (ci14 : PySem.W.codeIn K cdi14 "NotKept.__init__" = true)
    (ki14 : PySem.W.keepIn K (.ref i14) = true)
    (lc14 : K.lookup C14 = some (excClassObj nm14 qn14 C14 N14 bs14 bm14 true sn14 sub14 ab14 col14 dd14 ka14 kb14 kc14 kd14 ke14 "ValueError.__new__"))
    (lb14 : PySem.HandSPX.refsVE bm14 = true)
    (zint : PySem.W.nsIn K mainGlobals "int" = some none)
    (zlist : PySem.W.nsIn K mainGlobals "list" = some none)
    (zlen : PySem.W.nsIn K mainGlobals "len" = some none)
    (zrange : PySem.W.nsIn K mainGlobals "range" = some none)
    (zstr : PySem.W.nsIn K mainGlobals "str" = some none)
    (zenumerate : PySem.W.nsIn K mainGlobals "enumerate" = some none)
    (zzip : PySem.W.nsIn K mainGlobals "zip" = some none)
    (zrepr : PySem.W.nsIn K mainGlobals "repr" = some none)
    (zisinstance : PySem.W.nsIn K mainGlobals "isinstance" = some none)
    (zValueError : PySem.W.nsIn K mainGlobals "ValueError" = some none)
    (x9 : PySem.W.excIn K C9 [.type "ValueError", .type "Exception", .type "BaseException", .type "object"] "ValueError.__new__" = true)
    (y9 : PySem.W.keepIn K (.ref C9) = true)
    (x10 : PySem.W.excIn K C10 [.type "ValueError", .type "Exception", .type "BaseException", .type "object"] "ValueError.__new__" = true)
    (y10 : PySem.W.keepIn K (.ref C10) = true)
    (x15 : PySem.W.excIn K C15 [.type "ValueError", .type "Exception", .type "BaseException", .type "object"] "ValueError.__new__" = true)
    (y15 : PySem.W.keepIn K (.ref C15) = true)
    (x16 : PySem.W.excIn K C16 [.type "ValueError", .type "Exception", .type "BaseException", .type "object"] "ValueError.__new__" = true)
    (y16 : PySem.W.keepIn K (.ref C16) = true)
    (big : lookB K [C0, C1, C2, C3, C4, C5, C6, C7, C8, C9, C10, C11, C12, C13, C14, C15, C16] D = true) :
    LawG l w K CX0 5 63 "_law_script" mg fa h := by
  have e := hfa.symm.trans (PySem.W.mg_of X G a7)
  cases e
  have L := looked (cs := [C0, C1, C2, C3, C4, C5, C6, C7, C8, C9, C10, C11, C12, C13, C14, C15, C16]) rfl big
  have mgo : ∀ {x : Str} {a : Addr}, PySem.W.nsIn K mainGlobals x = some (some (.ref a)) → mg x = some (.ref a) := fun z => PySem.W.mg_of X G z
  have mgn : ∀ {x : Str}, PySem.W.nsIn K mainGlobals x = some none → mg x = none := fun z => PySem.W.mg_none_of X G z
  have F0 := fun_mk (st := sPen) l0 c0 k0
  have F1 := fun_mk (st := sDraw) l1 c1 k1
  have F2 := fun_mk (st := sPick) l2 c2 k2
  have F3 := fun_mk (st := sFar) l3 c3 k3
  have F4 := fun_mk (st := sKinds) l4 c4 k4
  have F5 := fun_mk (st := sObjects) l5 c5 k5
  have F6 := fun_mk (st := sFields) l6 c6 k6
  have F7 := fun_mk (st := sLaw) l7 c7 k7
  have b0 := F0.binds (ps := ["_law_script"]) fun _ _ _ _ _ _ us hl => match us, hl with | [_], _ => rfl
  have b1 := F1.binds (ps := ["_law_pen_here", "_law_many"]) fun _ _ _ _ _ _ us hl => match us, hl with | [_, _], _ => rfl
  have b2 := F2.binds (ps := ["_law_pen_here", "_law_some"]) fun _ _ _ _ _ _ us hl => match us, hl with | [_, _], _ => rfl
  have b3 := F3.binds (ps := ["_law_pen_here"]) fun _ _ _ _ _ _ us hl => match us, hl with | [_], _ => rfl
  have b4 := F4.binds (ps := ["_law_e"]) fun _ _ _ _ _ _ us hl => match us, hl with | [_], _ => rfl
  have b5 := F5.binds (ps := ["_law_a", "_law_b", "_law_c"]) fun _ _ _ _ _ _ us hl => match us, hl with | [_, _, _], _ => rfl
  have b6 := F6.binds (ps := ["_law_row"]) fun _ _ _ _ _ _ us hl => match us, hl with | [_], _ => rfl
  have FI0 := fun_mk (st := inClass (topS 2) 0) li0 ci0 ki0
  have bI0 := FI0.binds (ps := ["self", "column"]) fun _ _ _ _ _ _ us hl => match us, hl with | [_, _], _ => rfl
  have ox0 := L.ox 0 (by decide) (by decide)
  have oo0 : OexC K C0 := oexB_ok ox0.1 ⟨nm0, qn0, N0, bs0, bm0, sn0, sub0, ab0, col0, dd0, ka0, kb0, kc0, kd0, ke0, lc0, lb0⟩
  have FI1 := fun_mk (st := inClass (topS 3) 0) li1 ci1 ki1
  have bI1 := FI1.binds (ps := ["self", "line", "column"]) fun _ _ _ _ _ _ us hl => match us, hl with | [_, _, _], _ => rfl
  have ox1 := L.ox 1 (by decide) (by decide)
  have oo1 : OexC K C1 := oexB_ok ox1.1 ⟨nm1, qn1, N1, bs1, bm1, sn1, sub1, ab1, col1, dd1, ka1, kb1, kc1, kd1, ke1, lc1, lb1⟩
  have FI2 := fun_mk (st := inClass (topS 4) 0) li2 ci2 ki2
  have bI2 := FI2.binds (ps := ["self", "what", "number"]) fun _ _ _ _ _ _ us hl => match us, hl with | [_, _, _], _ => rfl
  have ox2 := L.ox 2 (by decide) (by decide)
  have oo2 : OexC K C2 := oexB_ok ox2.1 ⟨nm2, qn2, N2, bs2, bm2, sn2, sub2, ab2, col2, dd2, ka2, kb2, kc2, kd2, ke2, lc2, lb2⟩
  have FI3 := fun_mk (st := inClass (topS 5) 0) li3 ci3 ki3
  have bI3 := FI3.binds (ps := ["self", "row"]) fun _ _ _ _ _ _ us hl => match us, hl with | [_, _], _ => rfl
  have ox3 := L.ox 3 (by decide) (by decide)
  have oo3 : OexC K C3 := oexB_ok ox3.1 ⟨nm3, qn3, N3, bs3, bm3, sn3, sub3, ab3, col3, dd3, ka3, kb3, kc3, kd3, ke3, lc3, lb3⟩
  have FI4 := fun_mk (st := inClass (topS 6) 0) li4 ci4 ki4
  have bI4 := FI4.binds (ps := ["self", "low", "high"]) fun _ _ _ _ _ _ us hl => match us, hl with | [_, _, _], _ => rfl
  have ox4 := L.ox 4 (by decide) (by decide)
  have oo4 : OexC K C4 := oexB_ok ox4.1 ⟨nm4, qn4, N4, bs4, bm4, sn4, sub4, ab4, col4, dd4, ka4, kb4, kc4, kd4, ke4, lc4, lb4⟩
  have FI5 := fun_mk (st := inClass (topS 7) 0) li5 ci5 ki5
  have bI5 := FI5.binds (ps := ["self", "name"]) fun _ _ _ _ _ _ us hl => match us, hl with | [_, _], _ => rfl
  have ox5 := L.ox 5 (by decide) (by decide)
  have oo5 : OexC K C5 := oexB_ok ox5.1 ⟨nm5, qn5, N5, bs5, bm5, sn5, sub5, ab5, col5, dd5, ka5, kb5, kc5, kd5, ke5, lc5, lb5⟩
  have FI6 := fun_mk (st := inClass (topS 8) 0) li6 ci6 ki6
  have bI6 := FI6.binds (ps := ["self", "what"]) fun _ _ _ _ _ _ us hl => match us, hl with | [_, _], _ => rfl
  have ox6 := L.ox 6 (by decide) (by decide)
  have oo6 : OexC K C6 := oexB_ok ox6.1 ⟨nm6, qn6, N6, bs6, bm6, sn6, sub6, ab6, col6, dd6, ka6, kb6, kc6, kd6, ke6, lc6, lb6⟩
  have FI7 := fun_mk (st := inClass (topS 9) 0) li7 ci7 ki7
  have bI7 := FI7.binds (ps := ["self", "what", "limit"]) fun _ _ _ _ _ _ us hl => match us, hl with | [_, _, _], _ => rfl
  have ox7 := L.ox 7 (by decide) (by decide)
  have oo7 : OexC K C7 := oexB_ok ox7.1 ⟨nm7, qn7, N7, bs7, bm7, sn7, sub7, ab7, col7, dd7, ka7, kb7, kc7, kd7, ke7, lc7, lb7⟩
  have FI8 := fun_mk (st := inClass (topS 10) 0) li8 ci8 ki8
  have bI8 := FI8.binds (ps := ["self", "what", "number", "limit"]) fun _ _ _ _ _ _ us hl => match us, hl with | [_, _, _, _], _ => rfl
  have ox8 := L.ox 8 (by decide) (by decide)
  have oo8 : OexC K C8 := oexB_ok ox8.1 ⟨nm8, qn8, N8, bs8, bm8, sn8, sub8, ab8, col8, dd8, ka8, kb8, kc8, kd8, ke8, lc8, lb8⟩
  have FI11 := fun_mk (st := inClass (topS 13) 0) li11 ci11 ki11
  have bI11 := FI11.binds (ps := ["self", "what"]) fun _ _ _ _ _ _ us hl => match us, hl with | [_, _], _ => rfl
  have ox11 := L.ox 11 (by decide) (by decide)
  have oo11 : OexC K C11 := oexB_ok ox11.1 ⟨nm11, qn11, N11, bs11, bm11, sn11, sub11, ab11, col11, dd11, ka11, kb11, kc11, kd11, ke11, lc11, lb11⟩
  have FI12 := fun_mk (st := inClass (topS 14) 0) li12 ci12 ki12
  have bI12 := FI12.binds (ps := ["self", "name"]) fun _ _ _ _ _ _ us hl => match us, hl with | [_, _], _ => rfl
  have ox12 := L.ox 12 (by decide) (by decide)
  have oo12 : OexC K C12 := oexB_ok ox12.1 ⟨nm12, qn12, N12, bs12, bm12, sn12, sub12, ab12, col12, dd12, ka12, kb12, kc12, kd12, ke12, lc12, lb12⟩
  have FI13 := fun_mk (st := inClass (topS 15) 0) li13 ci13 ki13
  have bI13 := FI13.binds (ps := ["self", "name"]) fun _ _ _ _ _ _ us hl => match us, hl with | [_, _], _ => rfl
  have ox13 := L.ox 13 (by decide) (by decide)
  have oo13 : OexC K C13 := oexB_ok ox13.1 ⟨nm13, qn13, N13, bs13, bm13, sn13, sub13, ab13, col13, dd13, ka13, kb13, kc13, kd13, ke13, lc13, lb13⟩
  have FI14 := fun_mk (st := inClass (topS 16) 0) li14 ci14 ki14
  have bI14 := FI14.binds (ps := ["self", "promise", "witness"]) fun _ _ _ _ _ _ us hl => match us, hl with | [_, _, _], _ => rfl
  have ox14 := L.ox 14 (by decide) (by decide)
  have oo14 : OexC K C14 := oexB_ok ox14.1 ⟨nm14, qn14, N14, bs14, bm14, sn14, sub14, ab14, col14, dd14, ka14, kb14, kc14, kd14, ke14, lc14, lb14⟩
  have B : Bj mg := { int := mgn zint, list := mgn zlist, len := mgn zlen, range := mgn zrange, str := mgn zstr, enumerate := mgn zenumerate, zip := mgn zzip, repr := mgn zrepr }
  have T : Kls K mg ([C0, C1, C2, C3, C4, C5, C6, C7, C8, C9, C10, C11, C12, C13, C14, C15, C16].getD · 0) := { cls := L.xc, kit := L.kit, ce := ⟨D, mgo aD, L.ce⟩, ve := L.ve, mVE := mgn zValueError, isinstance := mgn zisinstance, mBadText := mgo m0, mBadLine := mgo m1, mBadNumber := mgo m2, mBadRow := mgo m3, mBadInterval := mgo m4, mBadName := mgo m5, mUnlike := mgo m6, mTooMany := mgo m7, mTooLarge := mgo m8, mTooWide := mgo m9, mPole := mgo m10, mFewer := mgo m11, mNoName := mgo m12, mTakenName := mgo m13, mNotKept := mgo m14, mNothingToUndo := mgo m15, mNothingToRedo := mgo m16, xTooWide := x9, kTooWide := y9, xPole := x10, kPole := y10, xNothingToUndo := x15, kNothingToUndo := y15, xNothingToRedo := x16, kNothingToRedo := y16 }
  have bl : ∀ (s : Shared) (u : Value), BindsTo s (PySem.W.fnOf "law" "law" (defArgs sLaw) (defBody sLaw) (defScope sLaw) .none kVf7 dcf7 pmf7 anf7 cdf7 ctf7) ⟨[u], []⟩ [("_law_script", u)] := fun s u => .of_eq rfl
  refine ⟨_, [], spLaw K, (fun p hp => nomatch hp), (fun p hp => nomatch hp), (fun p hp => nomatch hp), (fun s u => bl s u), (fun H a ns hl _ _ hS => ⟨a, ns, rfl, hS, hl, fun _ => rfl⟩), fun b _ _ m1 _ => ?_⟩
  let I0 : Ini l.prog w K mg b C0 ["column"] := ⟨oo0, i0, _, ei0, ti0, bI0, iniBadText FI0 oo0 (ox0.2 _ (by show _ ∈ (["column"] : List Str); simp)), ox0.2⟩
  let I1 : Ini l.prog w K mg b C1 ["line", "column"] := ⟨oo1, i1, _, ei1, ti1, bI1, iniBadLine FI1 oo1 (ox1.2 _ (by show _ ∈ (["line", "column"] : List Str); simp)) (ox1.2 _ (by show _ ∈ (["line", "column"] : List Str); simp)), ox1.2⟩
  let I2 : Ini l.prog w K mg b C2 ["what", "number"] := ⟨oo2, i2, _, ei2, ti2, bI2, iniBadNumber FI2 oo2 (ox2.2 _ (by show _ ∈ (["what", "number"] : List Str); simp)) (ox2.2 _ (by show _ ∈ (["what", "number"] : List Str); simp)), ox2.2⟩
  let I3 : Ini l.prog w K mg b C3 ["row"] := ⟨oo3, i3, _, ei3, ti3, bI3, iniBadRow FI3 oo3 (ox3.2 _ (by show _ ∈ (["row"] : List Str); simp)), ox3.2⟩
  let I4 : Ini l.prog w K mg b C4 ["low", "high"] := ⟨oo4, i4, _, ei4, ti4, bI4, iniBadInterval FI4 oo4 (ox4.2 _ (by show _ ∈ (["low", "high"] : List Str); simp)) (ox4.2 _ (by show _ ∈ (["low", "high"] : List Str); simp)), ox4.2⟩
  let I5 : Ini l.prog w K mg b C5 ["name"] := ⟨oo5, i5, _, ei5, ti5, bI5, iniBadName FI5 oo5 (ox5.2 _ (by show _ ∈ (["name"] : List Str); simp)), ox5.2⟩
  let I6 : Ini l.prog w K mg b C6 ["what"] := ⟨oo6, i6, _, ei6, ti6, bI6, iniUnlike FI6 oo6 (ox6.2 _ (by show _ ∈ (["what"] : List Str); simp)), ox6.2⟩
  let I7 : Ini l.prog w K mg b C7 ["what", "limit"] := ⟨oo7, i7, _, ei7, ti7, bI7, iniTooMany FI7 oo7 (ox7.2 _ (by show _ ∈ (["what", "limit"] : List Str); simp)) (ox7.2 _ (by show _ ∈ (["what", "limit"] : List Str); simp)), ox7.2⟩
  let I8 : Ini l.prog w K mg b C8 ["what", "number", "limit"] := ⟨oo8, i8, _, ei8, ti8, bI8, iniTooLarge FI8 oo8 (ox8.2 _ (by show _ ∈ (["what", "number", "limit"] : List Str); simp)) (ox8.2 _ (by show _ ∈ (["what", "number", "limit"] : List Str); simp)) (ox8.2 _ (by show _ ∈ (["what", "number", "limit"] : List Str); simp)), ox8.2⟩
  let I11 : Ini l.prog w K mg b C11 ["what"] := ⟨oo11, i11, _, ei11, ti11, bI11, iniFewer FI11 oo11 (ox11.2 _ (by show _ ∈ (["what"] : List Str); simp)), ox11.2⟩
  let I12 : Ini l.prog w K mg b C12 ["name"] := ⟨oo12, i12, _, ei12, ti12, bI12, iniNoName FI12 oo12 (ox12.2 _ (by show _ ∈ (["name"] : List Str); simp)), ox12.2⟩
  let I13 : Ini l.prog w K mg b C13 ["name"] := ⟨oo13, i13, _, ei13, ti13, bI13, iniTakenName FI13 oo13 (ox13.2 _ (by show _ ∈ (["name"] : List Str); simp)), ox13.2⟩
  let I14 : Ini l.prog w K mg b C14 ["promise", "witness"] := ⟨oo14, i14, _, ei14, ti14, bI14, iniNotKept FI14 oo14 (ox14.2 _ (by show _ ∈ (["promise", "witness"] : List Str); simp)) (ox14.2 _ (by show _ ∈ (["promise", "witness"] : List Str); simp)), ox14.2⟩
  let Gdraw : Df l.prog w K mg b "_law_draw" 1 ["_law_pen_here", "_law_many"] spDraw := ⟨f1, _, mgo a1, k1, b1, ok_draw F1 B.toBi⟩
  let Gpick : Df l.prog w K mg b "_law_pick" 2 ["_law_pen_here", "_law_some"] spPick := ⟨f2, _, mgo a2, k2, b2, ok_pick F2 B.toBi Gdraw⟩
  let Gpen : Df l.prog w K mg b "_law_pen" 1 ["_law_script"] (spPen K) := ⟨f0, _, mgo a0, k0, b0, ok_pen F0 B.toBi⟩
  let Gfar : Df l.prog w K mg b "_law_far" 3 ["_law_pen_here"] spFar := ⟨f3, _, mgo a3, k3, b3, ok_far F3 B.toBi Gdraw Gpick⟩
  let Gkinds : Df l.prog w K mg b "_law_kinds" 1 ["_law_e"] (spKinds ([C0, C1, C2, C3, C4, C5, C6, C7, C8, C9, C10, C11, C12, C13, C14, C15, C16].getD · 0)) := ⟨f4, _, mgo a4, k4, b4, ok_kinds F4 T⟩
  let Gobjects : Df l.prog w K mg b "_law_objects" 3 ["_law_a", "_law_b", "_law_c"] (spObjects ([C0, C1, C2, C3, C4, C5, C6, C7, C8, C9, C10, C11, C12, C13, C14, C15, C16].getD · 0)) := ⟨f5, _, mgo a5, k5, b5, ok_objects F5 T I0 I1 I2 I3 I4 I5 I6 I7 I8 I11 I12 I13 I14⟩
  let Gfields : Df l.prog w K mg b "_law_fields" 1 ["_law_row"] (spFields ([C0, C1, C2, C3, C4, C5, C6, C7, C8, C9, C10, C11, C12, C13, C14, C15, C16].getD · 0)) := ⟨f6, _, mgo a6, k6, b6, ok_fields F6 T I0 I1 I2 I3 I4 I5 I6 I7 I8 I11 I12 I13 I14⟩
  exact ok_law F7 B T m1 Gpen Gfar Gpick Gobjects Gkinds Gfields
end Vf

open PySem PySem.W PyProof.Rows
set_option maxRecDepth 100000 in
set_option maxHeartbeats 0 in
theorem PySem.Challenge.cw_nearcurves_k00_errors_holds : PySem.Challenge.rw_nearcurves_k00_errors.Holds := by
  w_on; o_law; k_head; (case hw => w_witness2)
  k_fill
  refine Vf.walkG (l := PySem.Challenge.rw_nearcurves_k00_errors) (n := 63) (k := 5) (C := fun _ => L2.CX0) (x := "_law_script") rfl (by decide) rfl ⟨rfl, by decide, by decide⟩ (by decide +kernel) (fun w h Y => PySem.W.kIn_of Y) ?F (fun _ _ _ _ _ z => z)
  case F =>
    intro w mg fa h Y X G hmg
    refine' Vf.all_mk X G hmg ?a0 ?l0 ?c0 ?k0 ?a1 ?l1 ?c1 ?k1 ?a2 ?l2 ?c2 ?k2 ?a3 ?l3 ?c3 ?k3 ?a4 ?l4 ?c4 ?k4 ?a5 ?l5 ?c5 ?k5 ?a6 ?l6 ?c6 ?k6 ?a7 ?l7 ?c7 ?k7 ?aD ?m0 ?m1 ?m2 ?m3 ?m4 ?m5 ?m6 ?m7 ?m8 ?m9 ?m10 ?m11 ?m12 ?m13 ?m14 ?m15 ?m16 ?ei0 ?ti0 ?li0 ?ci0 ?ki0 ?lc0 ?lb0 ?ei1 ?ti1 ?li1 ?ci1 ?ki1 ?lc1 ?lb1 ?ei2 ?ti2 ?li2 ?ci2 ?ki2 ?lc2 ?lb2 ?ei3 ?ti3 ?li3 ?ci3 ?ki3 ?lc3 ?lb3 ?ei4 ?ti4 ?li4 ?ci4 ?ki4 ?lc4 ?lb4 ?ei5 ?ti5 ?li5 ?ci5 ?ki5 ?lc5 ?lb5 ?ei6 ?ti6 ?li6 ?ci6 ?ki6 ?lc6 ?lb6 ?ei7 ?ti7 ?li7 ?ci7 ?ki7 ?lc7 ?lb7 ?ei8 ?ti8 ?li8 ?ci8 ?ki8 ?lc8 ?lb8 ?ei11 ?ti11 ?li11 ?ci11 ?ki11 ?lc11 ?lb11 ?ei12 ?ti12 ?li12 ?ci12 ?ki12 ?lc12 ?lb12 ?ei13 ?ti13 ?li13 ?ci13 ?ki13 ?lc13 ?lb13 ?ei14 ?ti14 ?li14 ?ci14 ?ki14 ?lc14 ?lb14 ?zint ?zlist ?zlen ?zrange ?zstr ?zenumerate ?zzip ?zrepr ?zisinstance ?zValueError ?x9 ?y9 ?x10 ?y10 ?x15 ?y15 ?x16 ?y16 ?big
    (case a0 => k_is)
    (case l0 => k_is)
    (case c0 => k_is)
    (case k0 => k_is)
    (case a1 => k_is)
    (case l1 => k_is)
    (case c1 => k_is)
    (case k1 => k_is)
    (case a2 => k_is)
    (case l2 => k_is)
    (case c2 => k_is)
    (case k2 => k_is)
    (case a3 => k_is)
    (case l3 => k_is)
    (case c3 => k_is)
    (case k3 => k_is)
    (case a4 => k_is)
    (case l4 => k_is)
    (case c4 => k_is)
    (case k4 => k_is)
    (case a5 => k_is)
    (case l5 => k_is)
    (case c5 => k_is)
    (case k5 => k_is)
    (case a6 => k_is)
    (case l6 => k_is)
    (case c6 => k_is)
    (case k6 => k_is)
    (case a7 => k_is)
    (case l7 => k_is)
    (case c7 => k_is)
    (case k7 => k_is)
    (case aD => k_is)
    (case m0 => k_is)
    (case m1 => k_is)
    (case m2 => k_is)
    (case m3 => k_is)
    (case m4 => k_is)
    (case m5 => k_is)
    (case m6 => k_is)
    (case m7 => k_is)
    (case m8 => k_is)
    (case m9 => k_is)
    (case m10 => k_is)
    (case m11 => k_is)
    (case m12 => k_is)
    (case m13 => k_is)
    (case m14 => k_is)
    (case m15 => k_is)
    (case m16 => k_is)
    (case ei0 => k_is)
    (case ti0 => k_is)
    (case li0 => k_is)
    (case ci0 => k_is)
    (case ki0 => k_is)
    (case lc0 => k_is)
    (case lb0 => decide +kernel)
    (case ei1 => k_is)
    (case ti1 => k_is)
    (case li1 => k_is)
    (case ci1 => k_is)
    (case ki1 => k_is)
    (case lc1 => k_is)
    (case lb1 => decide +kernel)
    (case ei2 => k_is)
    (case ti2 => k_is)
    (case li2 => k_is)
    (case ci2 => k_is)
    (case ki2 => k_is)
    (case lc2 => k_is)
    (case lb2 => decide +kernel)
    (case ei3 => k_is)
    (case ti3 => k_is)
    (case li3 => k_is)
    (case ci3 => k_is)
    (case ki3 => k_is)
    (case lc3 => k_is)
    (case lb3 => decide +kernel)
    (case ei4 => k_is)
    (case ti4 => k_is)
    (case li4 => k_is)
    (case ci4 => k_is)
    (case ki4 => k_is)
    (case lc4 => k_is)
    (case lb4 => decide +kernel)
    (case ei5 => k_is)
    (case ti5 => k_is)
    (case li5 => k_is)
    (case ci5 => k_is)
    (case ki5 => k_is)
    (case lc5 => k_is)
    (case lb5 => decide +kernel)
    (case ei6 => k_is)
    (case ti6 => k_is)
    (case li6 => k_is)
    (case ci6 => k_is)
    (case ki6 => k_is)
    (case lc6 => k_is)
    (case lb6 => decide +kernel)
    (case ei7 => k_is)
    (case ti7 => k_is)
    (case li7 => k_is)
    (case ci7 => k_is)
    (case ki7 => k_is)
    (case lc7 => k_is)
    (case lb7 => decide +kernel)
    (case ei8 => k_is)
    (case ti8 => k_is)
    (case li8 => k_is)
    (case ci8 => k_is)
    (case ki8 => k_is)
    (case lc8 => k_is)
    (case lb8 => decide +kernel)
    (case ei11 => k_is)
    (case ti11 => k_is)
    (case li11 => k_is)
    (case ci11 => k_is)
    (case ki11 => k_is)
    (case lc11 => k_is)
    (case lb11 => decide +kernel)
    (case ei12 => k_is)
    (case ti12 => k_is)
    (case li12 => k_is)
    (case ci12 => k_is)
    (case ki12 => k_is)
    (case lc12 => k_is)
    (case lb12 => decide +kernel)
    (case ei13 => k_is)
    (case ti13 => k_is)
    (case li13 => k_is)
    (case ci13 => k_is)
    (case ki13 => k_is)
    (case lc13 => k_is)
    (case lb13 => decide +kernel)
    (case ei14 => k_is)
    (case ti14 => k_is)
    (case li14 => k_is)
    (case ci14 => k_is)
    (case ki14 => k_is)
    (case lc14 => k_is)
    (case lb14 => decide +kernel)
    (case zint => k_is)
    (case zlist => k_is)
    (case zlen => k_is)
    (case zrange => k_is)
    (case zstr => k_is)
    (case zenumerate => k_is)
    (case zzip => k_is)
    (case zrepr => k_is)
    (case zisinstance => k_is)
    (case zValueError => k_is)
    (case x9 => k_exc)
    (case y9 => k_is)
    (case x10 => k_exc)
    (case y10 => k_is)
    (case x15 => k_exc)
    (case y15 => k_is)
    (case x16 => k_exc)
    (case y16 => k_is)
    (case big => kernel_rfl)
