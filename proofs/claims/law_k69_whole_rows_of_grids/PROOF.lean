import PyProof.Rows.All
import Wide.All
import OpenK.AllK
import Wide.FinOn
import HandS.ForMost
import HandS.ForExc
import HandS.EndBits
import HandS.EndTab
import HandS.Lambda
import HandS.ExcInit
import HandS.ExcValue
import HandS.ExcIs
import HandS.IsInst
import PyProof.ReprLen
import PyProof.StrLawsRepr
import HandS.TryMany
import HandS.ExcField
import HandS.CallLocal
import HandS.Gcd
import HandS.Wide
import KE.DataEq
import HandS.SlotsOwn
import HandS.WordsExc
import HandS.Zip
import KE.GoesZip
import KE.GoesMore
import KE.GoesEnum
import HandS.TupMul
import HandS.TupAny
import PySem.Challenge.RW_nearcurves_k69_whole_rows_of_grids
set_option Elab.async false
set_option linter.all false
set_option maxRecDepth 100000
set_option maxHeartbeats 4000000
/-! common: data with dicts, repr, a promise where no guard stands, the entry -/
namespace Vf
open PySem PySem.Spec PyProof.Rows L2

/-- a key as data -/
def kD : Key → PyData
  | .inl i => .int i
  | .inr x => .str x

mutual
/-- the value v, read in H, is the data d (dicts too) -/
inductive Dt (K : PySem.W.Frag) (H : Hp) : V → PyData → Prop
  | non : Dt K H .non .none
  | bl (b : Bool) : Dt K H (.bl b) (.bool b)
  | int (i : Int) : Dt K H (.int i) (.int i)
  | str (x : Str) : Dt K H (.str x) (.str x)
  | lst {a : Addr} {vs : List V} {ds : List PyData} : SqL K H a vs → Dts K H vs ds → Dt K H (.ref a) (.list ds)
  | tup {a : Addr} {vs : List V} {ds : List PyData} : SqT K H a vs → Dts K H vs ds → Dt K H (.ref a) (.tuple ds)
  | dct {a : Addr} {kvs : List (Key × V)} {ds : List PyData} : H a = some (.dK kvs) → Dts K H (kvs.map (·.2)) ds → Dt K H (.ref a) (.dict ((kvs.map fun p => kD p.1).zip ds))
inductive Dts (K : PySem.W.Frag) (H : Hp) : List V → List PyData → Prop
  | nil : Dts K H [] []
  | cons {v : V} {vs : List V} {d : PyData} {ds : List PyData} : Dt K H v d → Dts K H vs ds → Dts K H (v :: vs) (d :: ds)
end

theorem Dts.len {K : PySem.W.Frag} {H : Hp} : ∀ {vs : List V} {ds : List PyData}, Dts K H vs ds → vs.length = ds.length
  | _, _, .nil => rfl
  | _, _, .cons _ t => congrArg (· + 1) t.len
theorem Dts.at {K : PySem.W.Frag} {H : Hp} : ∀ {vs : List V} {ds : List PyData} {i : Nat} {v : V}, Dts K H vs ds → vs[i]? = some v → ∃ d, ds[i]? = some d ∧ Dt K H v d
  | _, _, _, _, .nil, e => by simp at e
  | _, _, 0, _, .cons h _, e => by simp at e; subst e; exact ⟨_, rfl, h⟩
  | _, _, i + 1, v, .cons _ t, e => by
    obtain ⟨d, h1, h2⟩ := t.at (i := i) (v := v) (by simpa using e)
    exact ⟨d, by simpa using h1, h2⟩
theorem Dts.app {K : PySem.W.Frag} {H : Hp} : ∀ {vs ws : List V} {ds es : List PyData}, Dts K H vs ds → Dts K H ws es → Dts K H (vs ++ ws) (ds ++ es)
  | _, _, _, _, .nil, h => h
  | _, _, _, _, .cons a t, h => .cons a (t.app h)
theorem Dts.take {K : PySem.W.Frag} {H : Hp} : ∀ {vs : List V} {ds : List PyData} (n : Nat), Dts K H vs ds → Dts K H (vs.take n) (ds.take n)
  | _, _, 0, _ => .nil
  | _, _, _ + 1, .nil => .nil
  | _, _, n + 1, .cons a t => .cons a (t.take n)

/-- all that is tracked in H stands in H' -/
theorem same_sqL {K : PySem.W.Frag} {H H' : Hp} {a : Addr} {xs : List V} (e : Same H H') (h : SqL K H a xs) : SqL K H' a xs := e.seq h
theorem same_sqT {K : PySem.W.Frag} {H H' : Hp} {a : Addr} {xs : List V} (e : Same H H') (h : SqT K H a xs) : SqT K H' a xs := by
  rcases h with (h | ⟨o, h⟩) | h
  · exact Or.inl (Or.inl (e a _ h))
  · exact Or.inl (Or.inr ⟨o, e a _ h⟩)
  · exact Or.inr h
mutual
theorem Dt.mono {K : PySem.W.Frag} {H H' : Hp} (e : Same H H') : ∀ {v : V} {d : PyData}, Dt K H v d → Dt K H' v d
  | _, _, .non => .non
  | _, _, .bl b => .bl b
  | _, _, .int i => .int i
  | _, _, .str x => .str x
  | _, _, .lst h1 h2 => .lst (same_sqL e h1) (Dts.mono e h2)
  | _, _, .tup h1 h2 => .tup (same_sqT e h1) (Dts.mono e h2)
  | _, _, .dct h1 h2 => .dct (e _ _ h1) (Dts.mono e h2)
theorem Dts.mono {K : PySem.W.Frag} {H H' : Hp} (e : Same H H') : ∀ {vs : List V} {ds : List PyData}, Dts K H vs ds → Dts K H' vs ds
  | _, _, .nil => .nil
  | _, _, .cons h1 h2 => .cons (Dt.mono e h1) (Dts.mono e h2)
end

/-- the dict of modules stands in the base -/
def M1 (b : Heap) : Prop := ∃ o es ep, b.get? sysModules = some o ∧ o.data = .dict es ep

theorem key_reads {h : Heap} {P : Program} {w : World} : ∀ {es : List DictEntry} {vs : List (Key × Value)} {ps : List (Key × V)}, PySem.Pairs (mixKind P w) es vs → KV ps vs →
    ReadsAll h (es.map (·.key)) (ps.map fun p => kD p.1) [] ∧ Vals (ps.map (·.2)) (es.map (·.val))
  | _, _, _, .nil, .nil => ⟨.nil, .nil⟩
  | _, _, _, .cons k1 k2 t, .cons r1 r2 => by
    obtain ⟨g1, g2⟩ := key_reads (h := h) t r2
    obtain ⟨e1, e2⟩ := r1
    refine ⟨?_, .cons (by have z := e2; rw [← k2] at z; exact z) g2⟩
    rw [← e1] at k1
    rename_i e kv es' kvs' p ps'
    have k3 : keyIs p.1 e.key = true := k1
    rcases keyIs_shape k3 with ⟨i, t, a1, a2⟩ | ⟨x, t, a1, a2⟩
    · have z : Reads h e.key (kD p.1) [] := by rw [a1, a2]; exact .int i t
      exact .cons (as := []) (bs := []) z g1
    · have z : Reads h e.key (kD p.1) [] := by rw [a1, a2]; exact .str x t
      exact .cons (as := []) (bs := []) z g1
theorem zip_fst {α β : Type} : ∀ {l : List α} {r : List β}, l.length = r.length → (l.zip r).map (·.1) = l
  | [], _, _ => by simp
  | a :: l, [], h => by simp at h
  | a :: l, b :: r, h => by
    rw [List.zip_cons_cons, List.map_cons, zip_fst (by simpa using h)]
theorem zip_snd {α β : Type} : ∀ {l : List α} {r : List β}, l.length = r.length → (l.zip r).map (·.2) = r
  | [], [], _ => rfl
  | [], b :: r, h => by simp at h
  | a :: l, [], h => by simp at h
  | a :: l, b :: r, h => by
    rw [List.zip_cons_cons, List.map_cons, zip_snd (by simpa using h)]

section
variable {X : Cx} {pins : List (Addr × Obj)} {σ : L2.St} {H : Hp} {s : Shared}
theorem not_sys (I : Inv X pins σ H s) (m : M1 X.base) {a : Addr} {o : Obj} {vs : Array Value} {n : Nat} (e : s.heap.get? a = some o) (d : o.data = .seq vs n) : sysModules ≠ a := fun z => by
  obtain ⟨o1, es, ep, e1, e2⟩ := m
  have q := I.bk _ _ e1
  rw [z, e] at q
  cases q
  rw [d] at e2
  cases e2
mutual
theorem Dt.reads (I : Inv X pins σ H s) (m : M1 X.base) : ∀ {v : V} {d : PyData} {u : Value}, Dt X.K H v d → RelV v u → ∃ as, Reads s.heap u d as ∧ sysModules ∉ as
  | _, _, u, .non, r => by
    obtain rfl : u = Value.none := r
    exact ⟨[], .none, by simp⟩
  | _, _, u, .bl b, r => by
    obtain rfl : u = Value.bool b := r
    exact ⟨[], .bool b, by simp⟩
  | _, _, u, .int i, r => by
    obtain ⟨t, rfl⟩ := r
    exact ⟨[], .int i t, by simp⟩
  | _, _, u, .str x, r => by
    obtain ⟨t, rfl⟩ := r
    exact ⟨[], .str x t, by simp⟩
  | _, _, u, .lst (a := a) h1 h2, r => by
    obtain rfl : u = Value.ref a := r
    obtain ⟨its, rv, ⟨o, n, e1, e2, e3, e4⟩, hz⟩ := I.list h1
    obtain ⟨as, ra, na⟩ := Dts.reads I m h2 rv
    refine ⟨_, .list e1 e2 e4 (by simpa using ra), fun z => ?_⟩
    rcases List.mem_cons.mp z with z | z
    · exact not_sys I m e1 e4 z
    · exact na z
  | _, _, u, .tup (a := a) h1 h2, r => by
    obtain rfl : u = Value.ref a := r
    obtain ⟨its, rv, ⟨o, e1, e2, n, e4⟩, hz⟩ := I.tuple h1
    obtain ⟨as, ra, na⟩ := Dts.reads I m h2 rv
    exact ⟨_, .tuple e1 e2 e4 (by simpa using ra), na⟩
  | _, _, u, .dct (a := a) (kvs := ps) (ds := ds) h1 h2, r => by
    obtain rfl : u = Value.ref a := r
    obtain ⟨hz, hs, vs, kv, o, es, ep, e1, ex, e2, hk, hp, hn⟩ := dk_of I.hok h1
    obtain ⟨g1, g2⟩ := key_reads (h := s.heap) hp kv
    obtain ⟨bs, rb, nb⟩ := Dts.reads I m h2 g2
    have hl : (ps.map fun p => kD p.1).length = ds.length := by
      have z := h2.len
      rw [List.length_map] at z ⊢
      exact z
    refine ⟨a :: [] ++ bs, .dict e1 ex.1 e2 (by rw [zip_fst hl]; exact g1) (by rw [zip_snd hl]; exact rb), fun z => ?_⟩
    rcases List.mem_cons.mp z with z | z
    · rw [z] at hs
      simp at hs
    · exact nb z
theorem Dts.reads (I : Inv X pins σ H s) (m : M1 X.base) : ∀ {vs : List V} {ds : List PyData} {us : List Value}, Dts X.K H vs ds → Vals vs us → ∃ as, ReadsAll s.heap us ds as ∧ sysModules ∉ as
  | _, _, _, .nil, .nil => ⟨[], .nil, by simp⟩
  | _, _, _, .cons h1 h2, .cons r1 r2 => by
    obtain ⟨as, q1, n1⟩ := Dt.reads I m h1 r1
    obtain ⟨bs, q2, n2⟩ := Dts.reads I m h2 r2
    refine ⟨as ++ bs, .cons q1 q2, fun z => ?_⟩
    rcases List.mem_append.mp z with z | z
    · exact n1 z
    · exact n2 z
end
end

/-- the sizes of the parts of a text of data -/
def small : PyData → Prop := fun d => d.showable = true ∧ d.depth ≤ 64 ∧ d.shown.length ≤ sizeLine
/-- repr of data, where no guard stands -/
theorem call_reprD {X : Cx} {k : Nat} (hg : X.A.guards = some []) (hr : Room k X.A) (m : M1 X.base) :
    CallR X (.builtin "repr") (fun xs H Q => ∃ v d, xs = [v] ∧ Dt X.K H v d ∧ small d ∧ Q (.str d.shown) H) := by
  intro pins s σ H xs us Q I r h
  obtain ⟨v, d, rfl, hd, ⟨hs, hz, hl⟩, q⟩ := h
  obtain ⟨u, rfl, ru⟩ := vals1 r
  obtain ⟨as, rd, na⟩ := Dt.reads I m hd ru
  cases rd with
  | none => exact PySem.P.repr_of_none ⟨.str _, H, I.tok _, ⟨_, rfl⟩, by simpa only [PyData.shown] using q⟩
  | bool b => exact PySem.P.repr_of_bool ⟨.str _, H, I.tok _, ⟨_, rfl⟩, by simpa only [PyData.shown] using q⟩
  | int i t => exact PySem.P.repr_of_int (by simpa [PyData.showable] using hs) ⟨.str _, H, I.tok _, ⟨_, rfl⟩, by simpa only [PyData.shown] using q⟩
  | str x t => exact PySem.P.repr_of_str ⟨.str _, H, I.tok _, ⟨_, rfl⟩, by simpa only [PyData.shown] using q⟩ (by simpa only [PyData.shown] using hl)
  | list a1 a2 a3 a4 => exact repr_of_reads' (.list a1 a2 a3 a4) hs (fun _ => na) hg (by have := hr.un; omega) (fun _ _ e => e) (fun h' u tk hk => ⟨.str _, H, I.kept hk, ⟨_, rfl⟩, q⟩) hl
  | tuple a1 a2 a3 a4 => exact repr_of_reads' (.tuple a1 a2 a3 a4) hs (fun _ => na) hg (by have := hr.un; omega) (fun _ _ e => e) (fun h' u tk hk => ⟨.str _, H, I.kept hk, ⟨_, rfl⟩, q⟩) hl
  | dict a1 a2 a3 a4 a5 => exact repr_of_reads' (.dict a1 a2 a3 a4 a5) hs (fun _ => na) hg (by have := hr.un; omega) (fun _ _ e => e) (fun h' u tk hk => ⟨.str _, H, I.kept hk, ⟨_, rfl⟩, q⟩) hl

/-! ### a promise that is asked only where no guard stands -/
structure FnG (P : Program) (w : World) (K : PySem.W.Frag) (mg : Str → Option Value) (base : Heap) (C : CXT) (k : Nat) (f : Addr) (fd : FuncData) (ps : List Str) (sp : Sp) : Prop where
  arity : ∀ vs H Q E, sp vs H Q E → vs.length = ps.length
  go : ∀ {A : Around} {out : List Env} {s : Shared} {H : Hp} {args : Args} {us : List Value} {vs : List V} {Q : VK} {E : XK}, A.guards = some [] → Room k A → Env0 P w K mg base A out s H → BindsTo s fd args (ps.zip us) →
    Vals vs us → sp vs H Q E → codeAny (model P w) A (.call (.ref f) args) (CR C out P w H s Q E) s
theorem fnG_of {C : CXT} {P : Program} {w : World} {K : PySem.W.Frag} {mg : Str → Option Value} {base : Heap} {x qual : Str} {st : Stmt} {f : Addr} {fd : FuncData} {N ps : List Str} {k : Nat} {sp : Sp} (F : Fun K x qual st f fd) (S : FnScope N ps (defScope st))
    (ar : ∀ vs H Q E, sp vs H Q E → vs.length = ps.length)
    (body : ∀ (cdv : Value) (A : Around) (out : List Env) (s : Shared) (H : Hp) (vs : List V) (Q : VK) (E : XK), A.guards = some [] → Room k (A.deeper (envOfC qual (defScope st) s.heap.objs.size f cdv)) → PySem.W.codeIn K cdv qual = true → sp vs H Q E →
      ∃ t, PSs (cxOf C P w K mg base N qual (defScope st) f cdv A out s H E) (defBody st) t ∧ t { nx := fun _ H' => Q .non H', rt := Q } (start N vs) H) : FnG P w K mg base C (k + 1) f fd ps sp := by
  obtain ⟨oc, od, kV, doc, pm, an, cdv, ct, osl, e, lk, hcd⟩ := F.ex
  subst e
  refine ⟨ar, fun {A out s H args us vs Q E} hgu hr e0 hb r h => ?_⟩
  exact LamX.run_ofS lk hcd S hr e0 hb r (ar _ _ _ _ h) fun hr' => body cdv A out s H vs Q E hgu hr' hcd h

theorem fnG_of0 {P : Program} {w : World} {K : PySem.W.Frag} {mg : Str → Option Value} {base : Heap} {x qual : Str} {st : Stmt} {f : Addr} {fd : FuncData} {N ps : List Str} {k : Nat} {sp : Sp} (F : Fun K x qual st f fd) (S : FnScope N ps (defScope st))
    (ar : ∀ vs H Q E, sp vs H Q E → vs.length = ps.length)
    (body : ∀ (cdv : Value) (A : Around) (out : List Env) (s : Shared) (H : Hp) (vs : List V) (Q : VK) (E : XK), A.guards = some [] → Room k (A.deeper (envOfC qual (defScope st) s.heap.objs.size f cdv)) → PySem.W.codeIn K cdv qual = true → sp vs H Q E →
      ∃ t, PSs (cxOf CX0 P w K mg base N qual (defScope st) f cdv A out s H E).nox (defBody st) t ∧ t { nx := fun _ H' => Q .non H', rt := Q } (start N vs) H) : FnG P w K mg base CX0 (k + 1) f fd ps sp :=
  fnG_of F S ar fun cdv A out s H vs Q E h1 h2 h3 h4 => by
    obtain ⟨t, z, q⟩ := body cdv A out s H vs Q E h1 h2 h3 h4
    exact ⟨t, z.nox, q⟩

/-! ### the entry -/
/-- what is tracked where the law is called: the script, the tables of code objects -/
structure Fit (P : Program) (w : World) (K : PySem.W.Frag) (h : Heap) (cs : List (Addr × Addr)) (a : Addr) (ns : List Int) (H : Hp) : Prop where
  tabs : ∀ p ∈ cs, H p.2 = some (.tbl #[])
  scr : SqL K H a (ns.map V.int)
  held : HOk P w H h
  only : ∀ b u, H b = some u → (b = a ∧ K.lookup a = none ∧ ∃ o xs, u = .frz o (.lst xs)) ∨ ((∃ p ∈ cs, b = p.2) ∧ u = .tbl #[])
def isTab (cs : List (Addr × Addr)) (b : Addr) : Bool := cs.any fun p => p.2 == b
theorem isTab_mem {cs : List (Addr × Addr)} {b : Addr} (h : isTab cs b = true) : ∃ p ∈ cs, b = p.2 := by
  obtain ⟨p, hp, e⟩ := List.any_eq_true.mp h
  exact ⟨p, hp, (beq_iff_eq.mp e).symm⟩
theorem isTab_of {cs : List (Addr × Addr)} {p : Addr × Addr} (h : p ∈ cs) : isTab cs p.2 = true := List.any_eq_true.mpr ⟨p, h, beq_self_eq_true _⟩
/-- the heap as it is told at the entry -/
def entryH (t : Bool) (o : Obj) (ns : List Int) (cs : List (Addr × Addr)) (a : Addr) : Hp := fun b =>
  if isTab cs b = true then some (.tbl #[]) else if t = true ∧ b = a then some (.frz o (.lst (ns.map V.int))) else none
theorem fit_ex {P : Program} {w : World} {K : PySem.W.Frag} {h : Heap} {cs : List (Addr × Addr)} {a : Addr} {vs : List Value} {ns : List Int} (hK : K.In h) (hT : ∀ p ∈ cs, h.get? p.2 = some { cls := .none, data := .fields #[] })
    (ha : h.get? a = some { cls := .type "list", data := .seq vs.toArray }) (hi : IntsAre vs ns) (hl : ns.length ≤ sizeLine) : ∃ H, Fit P w K h cs a ns H := by
  have rv := vals_ints hi
  have nt : isTab cs a = false := by
    cases e : isTab cs a with
    | false => rfl
    | true =>
      obtain ⟨p, hp, e2⟩ := isTab_mem e
      have q := hT p hp
      rw [← e2, ha] at q
      cases q
  have hl2 : (ns.map V.int).length ≤ sizeLine := by rw [List.length_map]; exact hl
  cases hk : K.lookup a with
  | some o =>
    have q := hK a o hk
    rw [ha] at q
    have q2 := Option.some.inj q
    refine ⟨entryH false { cls := .type "list", data := .seq vs.toArray } ns cs a, fun p hp => if_pos (isTab_of hp), ?_, fun b u e => ?_, fun b u e => ?_⟩
    · refine Or.inr ⟨o, vs.toArray, 0, hk, by rw [← q2], by rw [← q2], by rw [← q2], ?_, by simpa using rv⟩
      rw [List.size_toArray, hi.length]
      exact hl
    all_goals
      unfold entryH at e
      by_cases t : isTab cs b = true
      · rw [if_pos t] at e
        obtain ⟨p, hp, e2⟩ := isTab_mem t
        cases e
        first
          | (rw [e2]; exact hT p hp)
          | exact Or.inr ⟨⟨p, hp, e2⟩, rfl⟩
      · rw [if_neg t, if_neg (fun z => Bool.false_ne_true z.1)] at e
        cases e
  | none =>
    refine ⟨entryH true { cls := .type "list", data := .seq vs.toArray } ns cs a, fun p hp => if_pos (isTab_of hp), ?_, fun b u e => ?_, fun b u e => ?_⟩
    · refine Or.inl (Or.inr ⟨{ cls := .type "list", data := .seq vs.toArray }, ?_⟩)
      unfold entryH
      rw [if_neg (by rw [nt]; decide), if_pos ⟨rfl, rfl⟩]
    all_goals
      unfold entryH at e
      by_cases t : isTab cs b = true
      · rw [if_pos t] at e
        obtain ⟨p, hp, e2⟩ := isTab_mem t
        cases e
        first
          | (rw [e2]; exact hT p hp)
          | exact Or.inr ⟨⟨p, hp, e2⟩, rfl⟩
      · rw [if_neg t] at e
        by_cases ba : b = a
        · rw [if_pos ⟨rfl, ba⟩] at e
          cases e
          first
            | (rw [ba]; exact ⟨ha, hl2, vs, _, rv, ha⟩)
            | exact Or.inl ⟨ba, hk, _, _, rfl⟩
        · rw [if_neg (fun z => ba z.2)] at e
          cases e
/-- the law's call, from its promise where no guard stands -/
theorem law_enter {P : Program} {w : World} {K : PySem.W.Frag} {mg mb : Str → Option Value} {C : CXT} {k : Nat} {fa a : Addr} {cs : List (Addr × Addr)} {fd : FuncData} {x : Str} {sp : Sp} {s1 : Shared} {vs : List Value} {ns : List Int}
    (hK : K.In s1.heap) (hG : s1.heap.Ns mainGlobals mg) (hB : s1.heap.Ns builtinsNs mb) (hBB : ∀ x : Str, x ≠ "__name__" → mb x = bootBuiltins x) (hL : s1.heap.NoLimit) (hg : s1.gens = #[])
    (hT : ∀ p ∈ cs, s1.heap.get? p.2 = some { cls := .none, data := .fields #[] }) (nT : ∀ p ∈ cs, K.lookup p.2 = none) (hC : ∀ p ∈ cs, PySem.W.CodeHd s1.heap p.1 p.2)
    (hM : ∃ (bm : Addr) (ob : Obj), mg "__builtins__" = some (.ref bm) ∧ bm ≠ builtinsNs ∧ s1.heap.get? bm = some ob ∧ ob.cls = .type "module" ∧ ob.dict = some builtinsNs ∧ ob.data = .plain)
    (hs : M1 s1.heap) (ha : s1.heap.get? a = some { cls := .type "list", data := .seq vs.toArray }) (hi : IntsAre vs ns) (hl : ns.length ≤ sizeLine) (hr : Room k callerA)
    (F : ∀ b : Heap, K.In b → b.Ns mainGlobals mg → M1 b → (∀ p ∈ cs, LamX.TabB b mg p.1 p.2) → FnG P w K mg b C k fa fd [x] sp) (bind : ∀ (s : Shared) (u : Value), BindsTo s fd ⟨[u], []⟩ [(x, u)])
    (hsp : ∀ H : Hp, (∀ p ∈ cs, H p.2 = some (.tbl #[])) → SqL K H a (ns.map V.int) → sp [.ref a] H (fun v _ => v = .bl true) E0)
    (hE : ∀ H e s', C [] H s1 E0 e s' → False) :
    codeAny (model P w) callerA (.call (.ref fa) ⟨[.ref a], []⟩) (fun r s' => r = .ok (.ret (.bool true)) ∧ OldK s1.heap s'.heap ∧ s'.os = s1.os ∧ AllBare s'.gens) s1 := by
  obtain ⟨H, ft⟩ := fit_ex (P := P) (w := w) hK hT ha hi hl
  -- an object of neither kind is not tracked
  have un : ∀ {b : Addr} {o : Obj}, s1.heap.get? b = some o → (∀ us n, o.data ≠ .seq us n) → o.data ≠ .fields #[] → H b = none := by
    intro b o e n1 n2
    cases q : H b with
    | none => rfl
    | some u =>
      exfalso
      rcases ft.only b u q with ⟨z, _⟩ | ⟨⟨p, hp, z⟩, _⟩
      · rw [z, ha] at e
        cases e
        exact n1 _ _ rfl
      · rw [z, hT p hp] at e
        cases e
        exact n2 rfl
  have inB : ∀ {b : Addr} {o : Obj}, s1.heap.get? b = some o → (∀ us n, o.data ≠ .seq us n) → o.data ≠ .fields #[] → (hidT s1.heap H).get? b = some o := fun e n1 n2 => hidT_get e (un e n1 n2)
  have nsB : ∀ {b : Addr} {m : Str → Option Value}, s1.heap.Ns b m → (hidT s1.heap H).Ns b m := by
    intro b m ⟨o, es, ep, e, d, r⟩
    refine ⟨o, es, ep, inB e (fun us n z => ?_) (fun z => ?_), d, r⟩ <;> rw [d] at z <;> cases z
  have kB : K.In (hidT s1.heap H) := fun b o e => by
    refine hidT_get (hK b o e) ?_
    cases q : H b with
    | none => rfl
    | some u =>
      exfalso
      rcases ft.only b u q with ⟨z, n, _⟩ | ⟨⟨p, hp, z⟩, _⟩
      · rw [z, n] at e
        cases e
      · rw [z, nT p hp] at e
        cases e
  have mB : M1 (hidT s1.heap H) := by
    obtain ⟨o, es, ep, e, d⟩ := hs
    refine ⟨o, es, ep, inB e (fun us n z => ?_) (fun z => ?_), d⟩ <;> rw [d] at z <;> cases z
  have tB : ∀ p ∈ cs, LamX.TabB (hidT s1.heap H) mg p.1 p.2 := fun p hp => by
    obtain ⟨o, us, file, tf, flags, tg, inF, text, tt, c1, c2, c3, c4, c5, c6, c7, c8, c9, c10⟩ := hC p hp
    obtain ⟨bm, ob, d1, d2, d3, d4, d5, d6⟩ := hM
    have tp := hT p hp
    refine ⟨⟨o, us, file, tf, flags, tg, inF, text, tt, inB c1 (fun us n z => ?_) (fun z => ?_), c2, c3, c4, c5, c6, c7, c8, c9, c10⟩, ⟨bm, ob, d1, d2, fun z => ?_, fun z => ?_, inB d3 (fun us n z => ?_) (fun z => ?_), d4, d5, d6⟩, fun z => ?_⟩
    · rw [c3] at z
      cases z
    · rw [c3] at z
      cases z
      simp at c4
    · obtain ⟨o2, es, ep, e, d, _⟩ := hG
      rw [z, e] at d3
      cases d3
      rw [d] at d6
      cases d6
    · rw [z, tp] at d3
      cases d3
      cases d6
    · rw [d6] at z
      cases z
    · rw [d6] at z
      cases z
    · obtain ⟨o2, es, ep, e, d, _⟩ := hG
      rw [z, tp] at e
      cases e
      cases d
  have e0 : Env0 P w K mg (hidT s1.heap H) callerA [] s1 H := {
    frames := rfl
    mod := ⟨kB, nsB hG, ⟨mb, nsB hB, hBB⟩, let ⟨mc, z1, z2⟩ := hL; ⟨mc, nsB z1, z2⟩⟩
    bs := fun b o e => of_hidT e
    bsz := Nat.le_of_eq (hidT_size _ _)
    funs := trivial
    frf := fun b hb => nomatch (show b ∈ ([] : List Addr) from hb)
    hok := ft.held
    bare := .of_eq hg }
  refine codeAny_mono ((F _ kB (nsB hG) mB tB).go (us := [.ref a]) (vs := [.ref a]) rfl hr e0 (bind s1 _) (.cons rfl .nil) (hsp H ft.tabs ft.scr)) fun r s' h => ?_
  match r, h with
  | .error e, h => exact (hE H e s' h).elim
  | .ok .next, h => exact h.elim
  | .ok .brk, h => exact h.elim
  | .ok .cont, h => exact h.elim
  | .ok (.ret u), ⟨v, H', os, bare, U, held', rv, ev⟩ =>
    have ev2 : v = .bl true := ev
    rw [ev2] at rv
    obtain rfl : u = Value.bool true := rv
    have tab' : ∀ p ∈ cs, ∃ more : Array Value, s'.heap.get? p.2 = some { cls := .none, data := .fields more } := fun p hp => by
      obtain ⟨more, z⟩ := U.tbls p.2 #[] (ft.tabs p hp)
      exact ⟨_, held' _ _ z⟩
    have old : ∀ b o, isTab cs b = false → s1.heap.get? b = some o → s'.heap.get? b = some o := fun b o nb e => by
      cases q : H b with
      | none => exact U.keep b o e q (fun z => nomatch (show b ∈ ([] : List Addr) from z)) (fun z => nomatch z)
      | some y =>
        rcases ft.only b y q with ⟨_, _, ob, xs, z⟩ | ⟨⟨p, hp, z⟩, _⟩
        · rw [z] at q
          have g1 := (ft.held b _ q).1
          have g2 := (held' b _ (U.frzs b ob _ q)).1
          rw [e] at g1
          cases g1
          exact g2
        · rw [z, isTab_of hp] at nb
          cases nb
    refine ⟨rfl, ⟨fun b o e => ?_, fun b o e => ?_⟩, os, bare⟩
    · cases nb : isTab cs b with
      | false => exact .inl (old b o nb e)
      | true =>
        obtain ⟨p, hp, z⟩ := isTab_mem nb
        obtain ⟨more, hm⟩ := tab' p hp
        rw [z] at e ⊢
        rw [hT p hp] at e
        cases e
        exact .inr (.inl ⟨((hC p hp).tab (hT p hp)).isCodeTable, rfl, #[], more, rfl, by rw [Array.empty_append]; exact hm⟩)
    · cases nb : isTab cs b with
      | false => exact ⟨o, old b o nb e⟩
      | true =>
        obtain ⟨p, hp, z⟩ := isTab_mem nb
        obtain ⟨more, hm⟩ := tab' p hp
        rw [z]
        exact ⟨_, hm⟩
end Vf

set_option maxRecDepth 100000
set_option maxHeartbeats 4000000
/-! exceptions held as values -/
namespace Vf
open PySem PySem.Spec PyProof.Rows L2
section
open PySem.W PySem.Calls
variable {prog : Program} {w : World} {K : Frag} {x D : Addr} {ox : Obj} {od : Option Obj}
theorem bound_any {C : Addr} {nm : Str} {a g : Value} (c : (clsIn K C).isSome = true) (fa : findIn K (.ref C) nm = some (some a)) (fg : specialIn K a "__get__" = some (some g)) (ft : takesIn K a = some true) : findObj K C od nm = some (.bind g a) := by
  obtain ⟨cd, c⟩ := Option.isSome_iff_exists.mp c
  simp only [findObj, c, fa, fg, ft, Option.bind_some]
/-- what isinstance asks of the class of an exception -/
structure XC (K : Frag) (D : Addr) : Prop where
  ga : findIn K (.ref D) "__getattribute__" = some (some (.builtin "BaseException.__getattribute__"))
  gg : findIn K (.ref D) "__getattr__" = some none
  sb : subIn K (.ref D) (.type "BaseException") = some true
  hd : hasDictIn K D = true
  ca : findIn K (.ref D) "__class__" = some (some (.builtin "object.__class__"))
  cn : specialIn K (.builtin "object.__class__") "__get__" = some (some (.builtin "getset_descriptor.__get__"))
  ct : takesIn K (.builtin "object.__class__") = some true
  mo : mroIn K D (.type "object") = some true
theorem XC.cls {K : Frag} {D : Addr} (T : XC K D) : (clsIn K D).isSome = true := by
  obtain ⟨cd, e, _⟩ := any_some T.hd
  simp only [e, Option.isSome_some]
/-- its class, asked of the exception itself, whatever its dict holds -/
theorem own_class {A : Around} {E : Value → Shared → Prop} {s : Shared} {Q : Option Value → Shared → Prop} (T : XC K D) (X : K.In s.heap) (I : InstAt s.heap x ox D od) (q : Q (some (.ref D)) { s with toks := s.toks + 1 }) :
    wpAny (model prog w) A (getAttr? (.ref x) "__class__") Q E s := by
  obtain ⟨hp, gs, dr, tk, os⟩ := s
  have l0 := I.type (M := model prog w)
  have l1 := looks_findIn (M := model prog w) X T.ga
  have l2 := looks_findIn (M := model prog w) X T.gg
  have l3 := looks_find (M := model prog w) X I (bound_any (od := od) T.cls T.ca T.cn T.ct)
  have y1 : (onTheHeap (Value.ref D) && Value.builtin "BaseException.__getattribute__" == Value.builtin "object.__getattribute__") = false := by
    rw [show (Value.builtin "BaseException.__getattribute__" == Value.builtin "object.__getattribute__") = false from by decide +kernel, Bool.and_false]
  unfold getAttr?
  unfold getAttrBy?
  unfold getAttrBy
  refine wpAny_bind (wpAny_mkText (wpAny_bind ?_))
  refine wpAny_attempt (wpAny_holding (wpAny_bind (l0.at ?_)))
  refine wpAny_bind (l1.at ?_)
  show wpAny _ _ (if (onTheHeap (Value.ref D) && Value.builtin "BaseException.__getattribute__" == Value.builtin "object.__getattribute__") = true then _ else _) _ _ _
  rw [y1]
  rw [if_neg Bool.false_ne_true]
  unfold getAttrByItsOwn
  unfold hookBefore
  refine wpAny_bind ?_
  rw [if_pos (show onTheHeap (Value.ref D) = true from rfl)]
  refine l2.at (wpAny_bind (wpAny_attempt (wpAny_holding ?_)))
  unfold callGetattribute
  rw [show (false && onTheHeap (Value.builtin "BaseException.__getattribute__")) = false from rfl, if_neg Bool.false_ne_true]
  unfold boundAndCalled
  rw [PySem.F.excAttr_ValueError.ga.bind (.ref x)]
  refine wpAny_bind (wpAny_pure ?_)
  show wpAny _ _ (call (.builtin "BaseException.__getattribute__") [.ref x, .str "__class__" tk]) _ _ _
  refine wpAny_call (codeAny_call_builtin PySem.F.excAttr_ValueError.ga.plain PySem.F.entry_bexc_ga ?_)
  have sub : Looks (model prog w) hp (isInstance (.ref x) (.type "BaseException")) true := l0.andThen (looks_subIn X T.sb)
  refine @check_slot (model prog w) _ _ ⟨hp, gs, dr, tk + 1, os⟩ "BaseException.__getattribute__" "BaseException" "__getattribute__" (.ref x) [.str "__class__" tk] [] _ (by decide +kernel) (by decide +kernel) sub
    (PySem.F.args_bexc_ga (.ref x) (.str "__class__" tk)) ?_
  unfold Builtin.«object.__getattribute__»
  refine wpAny_bind ?_
  refine wpAny_of_eq (a := ((Value.ref x : Value), [Value.str "__class__" tk])) (by first | rfl | (simp only [slotArgs]; rfl)) ?_
  refine wpAny_bind (wpAny_pure (wpAny_bind (l0.at ?_)))
  refine wpAny_bind (l3.at ?_)
  show wpAny _ _ (holding [Value.builtin "object.__class__"] (call (.builtin "getset_descriptor.__get__") [.builtin "object.__class__", .ref x, .ref D]) >>= ret) _ _ _
  refine wpAny_bind (wpAny_holding (wpAny_call (class_get (s := ⟨hp, gs, dr, tk + 1, os⟩) (od := od) X I T.mo ?_)))
  refine wpAny_pure ?_
  show wpAny _ _ (handedOut (.ref D)) _ _ _
  rw [handedOut_of (v := .ref D) rfl]
  first
    | exact wpAny_pure (wpAny_pure q)
    | exact wpAny_pure q
    | exact wpAny_pure (wpAny_bind (wpAny_pure (wpAny_pure q)))
theorem kit_own (T : XC K D) : KitX K (.ref x) (.ref D) (fun h => InstAt h x ox D od) := by
  obtain ⟨cd, e, _⟩ := any_some T.hd
  have at_ : ∃ c d sl, K.lookup D = some ⟨c, d, .cls cd, sl⟩ := by
    unfold clsIn at e
    split at e
    · rename_i ho
      cases e
      exact ⟨_, _, _, ho⟩
    · cases e
  obtain ⟨c, d, sl, ho⟩ := at_
  refine ⟨fun _ _ _ I => I.type, fun _ _ X _ => ?_, fun h tp dd its n sl' X ht => ?_, fun X I q => own_class T X I q⟩
  · intro A Q E s k q
    unfold isType
    unfold loadHead
    exact wpAny_bind (wpAny_loadPart (k _ _ (X _ _ ho)) (wpAny_pure q))
  · cases z : (Value.ref D == Value.ref tp) with
    | false => rfl
    | true =>
      have e2 : D = tp := Value.ref.inj (beq_iff_eq.mp z)
      have z2 := X _ _ ho
      rw [e2, ht] at z2
      cases z2
end

/-- an exception of the class at C stands at a as a value; what it keeps -/
def XAt (H : Hp) (a C : Addr) : Option (List (Str × V)) → Prop
  | none => H a = some (ExO (.ref C) a)
  | some fs => ∃ d, H a = some (exo a C (some d)) ∧ H d = some (exd d fs)
theorem XAt.same {H H' : Hp} {a C : Addr} {o : Option (List (Str × V))} (s : Same H H') (h : XAt H a C o) : XAt H' a C o := by
  cases o with
  | none => exact s _ _ h
  | some fs =>
    obtain ⟨d, h1, h2⟩ := h
    exact ⟨d, s _ _ h1, s _ _ h2⟩
section
variable {X : Cx} {pins : List (Addr × Obj)} {σ : L2.St} {H : Hp} {s : Shared}
theorem XAt.inst {a C : Addr} {o : Option (List (Str × V))} (I : Inv X pins σ H s) (h : XAt H a C o) : ∃ oe od, PySem.W.InstAt s.heap a oe C od := by
  cases o with
  | none =>
    obtain ⟨⟨oe, vs, e1, e2, e3, _⟩, _⟩ := I.hok a _ h
    exact ⟨oe, none, e1, e2.1, by unfold PySem.W.notCls; rw [e3] <;> rfl, by rw [e2.2]; trivial⟩
  | some fs =>
    obtain ⟨d, h1, h2⟩ := h
    obtain ⟨t1, e1⟩ := exo_at I.hok h1
    obtain ⟨mA, hn, _⟩ := exd_at I.hok h2
    obtain ⟨od, eo, _⟩ := lookIn_ns hn
    exact ⟨_, some od, e1, rfl, rfl, eo⟩
/-- isinstance of an exception that is held as a value -/
theorem call_isiX : CallR X (.builtin "isinstance") (fun xs H Q => ∃ (a C : Addr) (o : Option (List (Str × V))) (c : V) (u : Value) (b : Bool), xs = [.ref a, c] ∧ ClsV c u ∧ XAt H a C o ∧ XC X.K C ∧ PySem.W.kitOne X.K (.ref C) u = some b ∧ Q (.bl b) H) := by
  intro pins s σ H xs us Q I r h
  obtain ⟨a, C, o, c, u, b, rfl, k, x, T, e, q⟩ := h
  obtain ⟨u1, u2, rfl, r1, r2⟩ := vals2 r
  have e2 := k.eq r2
  subst e2
  obtain rfl : u1 = Value.ref a := r1
  obtain ⟨oe, od, J⟩ := x.inst I
  exact PySem.W.kia_one (kit_own T) I.kIn J e (fun z => nomatch z) fun tk => ⟨.bl b, H, I.tok tk, rfl, q⟩
/-- e.f of such an exception -/
def tXv (K : PySem.W.Frag) (f : Str) (te : TE) : TE := fun σ H Q => te σ H fun y H1 => ∃ (a C : Addr) (fs : List (Str × V)) (v : V), y = .ref a ∧ XAt H1 a C (some fs) ∧ XC K C ∧ PySem.W.findIn K (.ref C) f = some none ∧ fs.lookup f = some v ∧ Q v H1
theorem pe_xv {e : Expr} {te : TE} {pos : Pos} {n : Str} (he : PE X e te) (hb : attributeBase e n X.env (eval e X.env) = eval e X.env := by rfl) : PE X (.Attribute e n pos) (tXv X.K n te) := by
  refine ⟨fun pins s σ H Q I h => attr_of hb (thn (he.run pins s σ H _ I h) fun u s1 ⟨y, H1, I1, ry, a, C, fs, v, ey, xa, T, hno, hl, q⟩ => ?_)⟩
  subst ey
  obtain rfl : u = Value.ref a := ry
  obtain ⟨d, h1, h2⟩ := xa
  obtain ⟨t1, e1⟩ := exo_at I1.hok h1
  obtain ⟨mA, hn, rel⟩ := exd_at I1.hok h2
  obtain ⟨od, eo, lk⟩ := lookIn_ns hn
  obtain ⟨v', hu, ru⟩ := RelO.some_of (v := v) (o := mA n) (by rw [← hl]; exact rel n)
  exact HandSPX.exc_get (ox := { cls := .ref C, dict := some d, data := .fields #[.ref t1, .none, .none, .none, .bool false, .none] }) (od := some od) I1.kIn ⟨e1, rfl, rfl, eo⟩ T.ga T.gg T.sb (PySem.W.findObj_own T.hd hno rfl (by rw [lk, hu])) (handed_of ru) ⟨v, H1, I1.tok _, ru, q⟩
/-- C(e, ..), as a value, its own __init__ keeping sp -/
def tMkV (C : Addr) (sp : Sp) (ta : TA) : TE := fun σ H Q => ta σ H fun vs H1 => vs.length ≤ 1000 ∧ ∀ a, H1 a = none → sp (.ref a :: vs) (upd H1 a (exo a C none)) (fun v H2 => v = .non ∧ Q (.ref a) H2) E0
theorem pe_mkv {x : Str} {C fI : Addr} {k : Nat} {fd : FuncData} {ps : List Str} {sp : Sp} {e : Expr} {es : List Expr} {ta : TA} {p pos : Pos} (T : OexC X.K C) (iC : PySem.W.findIn X.K (.ref C) "__init__" = some (some (.ref fI))) (tI : PySem.W.typeIn X.K (.ref fI) = some (.type "function"))
    (F : FnOk X.prog X.w X.K X.mg X.base CX0 k fI fd ps sp) (hr : Room (k + 1) X.A) (hb : Binds X.K fd ps []) (hg : Gl X x) (hm : X.mg x = some (.ref C)) (ha : PA X (e :: es) ta)
    (hdb : (x == ("__debug__" : Str)) = false := by decide) (he : starEach (e :: es) X.env = (false, eval e X.env) :: starEach es X.env := by rfl) (hpl : (backTo pos (starEach es X.env)).any (·.1) = false := by rfl) :
    PE X (.Call (.Name x p) (e :: es) [] pos) (tMkV C sp ta) := by
  refine ⟨fun pins s σ H Q I h => wpAny_Call_Name_kw (ld_glob I hg hm ?_ hdb)⟩
  obtain ⟨nm, q, N, bs, bm, sn, sub, ab, col, dd, k0, k1, k2, k3, k5, hC, hbm⟩ := T.cls
  refine PySem.W.callWith_K (h₀ := X.base) I.ok.mod.kin T.kC (thn (ha.run pos pins s σ H _ I h) fun us s1 ⟨vs, H1, I1, rv, hz, g⟩ => ⟨I1.kIn, ?_⟩) he hpl
  show wpAny _ _ (call (.ref C) us) _ _ _
  obtain ⟨hp, gs, dr, tk, os⟩ := s1
  have new : H1 (hp.objs.size + 1) = none := I1.hok.fresh (Nat.le_succ _)
  have g := g (hp.objs.size + 1) new
  let h2 := (hp.push (PySem.W.kdv_tup us)).push (PySem.HandSPX.excO C hp.objs.size)
  have at2 : h2.get? (hp.objs.size + 1) = some (PySem.HandSPX.excO C hp.objs.size) := by
    show ((hp.push (PySem.W.kdv_tup us)).push (PySem.HandSPX.excO C hp.objs.size)).get? (hp.objs.size + 1) = _
    heap_get
  have I2 : Inv X pins σ (upd H1 (hp.objs.size + 1) (exo (hp.objs.size + 1) C none)) ⟨h2, gs, dr, tk, os⟩ :=
    I1.laid (t' := tk) (a := hp.objs.size + 1) (h' := h2) (fun b o z => Heap.get?_push_of_some _ (Heap.get?_push_of_some _ z)) (Nat.le_succ _) (exo_ok at2)
  have r2 : Vals (V.ref (hp.objs.size + 1) :: vs) (Value.ref (hp.objs.size + 1) :: us) := .cons rfl rv
  have ln : (Value.ref (hp.objs.size + 1) :: us ++ []).length = ps.length := by
    rw [List.append_nil, ← r2.length]
    exact F.len _ _ _ _ g
  have hus : us.length ≤ sizeLine := by
    rw [← Paired.length rv, sizeLine_eq]
    omega
  have bd := hb ⟨h2, gs, dr, tk, os⟩ (Value.ref (hp.objs.size + 1) :: us) I2.kIn ln
  rw [List.append_nil] at bd
  refine wpAny_call (PySem.HandSPX.call_own PySem.F.excBase_ValueError (fun Y => PySem.HandSPX.refsVE_contains Y bm hbm) (I1.kIn _ _ hC) (PySem.W.looks_findIn I1.kIn iC) (fun self => PySem.W.bind_fn I1.kIn self tI) hus ?_)
  refine codeAny_mono (F.run _ X.stack _ _ _ _ _ _ E0 (hr.make C us []) (I2.env0.make C us []) bd r2 g) fun r s' z => ?_
  match r, z with
  | .error er, z => exact z.elim
  | .ok .next, z => exact z.elim
  | .ok .brk, z => exact z.elim
  | .ok .cont, z => exact z.elim
  | .ok (.ret u), ⟨v, H2, o2, b2, un2, ok2, ru, ev, q2⟩ =>
    subst ev
    refine ⟨ru, ?_⟩
    exact I2.after ⟨.ref (hp.objs.size + 1), H2, o2, b2, un2, ok2, rfl, q2⟩
/-- C(), a class without an __init__ of its own -/
theorem pe_mk0 {x : Str} {C : Addr} {p pos : Pos} (q : PySem.W.excIn X.K C [.type "ValueError", .type "Exception", .type "BaseException", .type "object"] "ValueError.__new__" = true) (kC : PySem.W.keepIn X.K (.ref C) = true) (hg : Gl X x) (hm : X.mg x = some (.ref C))
    (hdb : (x == ("__debug__" : Str)) = false := by decide) : PE X (.Call (.Name x p) [] [] pos) (fun _ H Q => ∀ a, H a = none → Q (.ref a) (upd H a (ExO (.ref C) a))) := by
  refine ⟨fun pins s σ H Q I h => wpAny_Call_Name_kw (ld_glob I hg hm (PySem.W.callWith_K0 I.kIn kC ?_) hdb)⟩
  obtain ⟨hp, gs, dr, tk, os⟩ := s
  obtain ⟨bm, N, nm, qn, bs, hdct, sn, sub, ab, col, dd, k0, k1, k2, k3, k5, mN, hC, hN, hni, T⟩ := exc_obj I.kIn q
  refine wpAny_call_exc_subT PySem.F.excBase_ValueError T hC hN hni (fun h' a M => ?_) (by rw [sizeLine_eq]; decide)
  have n : H a = none := I.hok.gone M.new
  obtain ⟨t, e, _, _⟩ := M.there
  exact ⟨.ref a, upd H a (ExO (.ref C) a), I.laidN M.keeps M.new n (exO_ok e ⟨rfl, rfl⟩ rfl rfl rfl (by show 4 < 6; decide)), rfl, h a n⟩
end
end Vf
namespace Vf
open PySem PySem.Spec PyProof.Rows L2
def xcB (K : PySem.W.Frag) (D : Addr) : Bool :=
  decide (PySem.W.findIn K (.ref D) "__getattribute__" = some (some (.builtin "BaseException.__getattribute__"))) && (decide (PySem.W.findIn K (.ref D) "__getattr__" = some none) && (decide (PySem.W.subIn K (.ref D) (.type "BaseException") = some true) &&
  (PySem.W.hasDictIn K D && (decide (PySem.W.findIn K (.ref D) "__class__" = some (some (.builtin "object.__class__"))) && (decide (PySem.W.specialIn K (.builtin "object.__class__") "__get__" = some (some (.builtin "getset_descriptor.__get__"))) &&
  (decide (PySem.W.takesIn K (.builtin "object.__class__") = some true) && decide (PySem.W.mroIn K D (.type "object") = some true)))))))
theorem xcB_ok {K : PySem.W.Frag} {D : Addr} (h : xcB K D = true) : XC K D := by
  obtain ⟨h1, h⟩ := Bool.and_eq_true_iff.mp h
  obtain ⟨h2, h⟩ := Bool.and_eq_true_iff.mp h
  obtain ⟨h3, h⟩ := Bool.and_eq_true_iff.mp h
  obtain ⟨h4, h⟩ := Bool.and_eq_true_iff.mp h
  obtain ⟨h5, h⟩ := Bool.and_eq_true_iff.mp h
  obtain ⟨h6, h⟩ := Bool.and_eq_true_iff.mp h
  obtain ⟨h7, h8⟩ := Bool.and_eq_true_iff.mp h
  exact ⟨of_decide_eq_true h1, of_decide_eq_true h2, of_decide_eq_true h3, h4, of_decide_eq_true h5, of_decide_eq_true h6, of_decide_eq_true h7, of_decide_eq_true h8⟩
end Vf

set_option maxRecDepth 100000
set_option maxHeartbeats 4000000
/-! sizes of texts of data; walks -/
namespace Vf
open PySem PySem.Spec PyProof.Rows L2
/-- good data: shallow, shown in few signs -/
structure Gd (d : PyData) : Prop where
  sh : d.showable = true
  dp : d.depth ≤ 10
  ln : d.shown.length ≤ 100000
theorem gd_none : Gd .none := ⟨rfl, by decide, by simp only [PyData.shown]; decide⟩
theorem gd_bool (b : Bool) : Gd (.bool b) := ⟨rfl, by simp [PyData.depth], by cases b <;> (simp only [PyData.shown]; decide)⟩
theorem log_small {z : Int} (h : z.natAbs < 2 ^ 1920) : z.natAbs.log2 < 1920 := by
  by_cases e : z.natAbs = 0
  · rw [e]
    decide
  · exact (Nat.log2_lt e).mpr h
theorem gd_int {z : Int} (h : z.natAbs < 2 ^ 1920) : Gd (.int z) := by
  have l := log_small h
  refine ⟨by simp only [PyData.showable, l, decide_true], by simp [PyData.depth], ?_⟩
  simp only [PyData.shown]
  exact Nat.le_trans (int_text_len_1921 l) (by decide)
theorem gd_str {x : Str} (h : ∀ c ∈ x.cps.toList, c < 16 ^ 8) (hl : x.length ≤ 9000) : Gd (.str x) := by
  refine ⟨rfl, by simp [PyData.depth], ?_⟩
  simp only [PyData.shown]
  have q := StrLaws.reprText_len x h
  omega
theorem int_codes (z : Int) : ∀ c ∈ (Str.ofString (toString z)).cps.toList, c < 16 ^ 8 := fun c h => by
  by_cases e : c < 58
  · have : (58 : Nat) < 16 ^ 8 := by decide
    omega
  · exact absurd h (int_text_free' c ⟨by omega, by omega⟩ z)
theorem sum_le_of {l : List Nat} {m : Nat} (h : ∀ x ∈ l, x ≤ m) : l.sum ≤ l.length * m := by
  induction l with
  | nil => simp
  | cons a r ih =>
    have h1 := h a (List.mem_cons_self ..)
    have h2 := ih fun x hx => h x (List.mem_cons_of_mem _ hx)
    rw [List.sum_cons, List.length_cons, Nat.add_mul]
    omega
theorem shownAll_map : ∀ ds : List PyData, PyData.shownAll ds = ds.map PyData.shown
  | [] => by simp only [PyData.shownAll, List.map_nil]
  | d :: r => by simp only [PyData.shownAll, List.map_cons, shownAll_map r]
theorem showableAll_of : ∀ {ds : List PyData}, (∀ d ∈ ds, d.showable = true) → PyData.showableAll ds = true
  | [], _ => by simp only [PyData.showableAll]
  | d :: r, h => by
    simp only [PyData.showableAll, h d (List.mem_cons_self ..), showableAll_of fun x hx => h x (List.mem_cons_of_mem _ hx), Bool.and_self]
theorem depthAll_of {m : Nat} : ∀ {ds : List PyData}, (∀ d ∈ ds, d.depth ≤ m) → PyData.depthAll ds ≤ m
  | [], _ => by simp only [PyData.depthAll]; exact Nat.zero_le _
  | d :: r, h => by
    simp only [PyData.depthAll]
    exact Nat.max_le.mpr ⟨h d (List.mem_cons_self ..), depthAll_of fun x hx => h x (List.mem_cons_of_mem _ hx)⟩
/-- few data, each shown in at most m signs -/
theorem seq_len {ds : List PyData} {m : Nat} (h : ∀ d ∈ ds, d.shown.length ≤ m) : (((PyData.shownAll ds).map (·.length)).sum ≤ ds.length * m) ∧ (PyData.shownAll ds).length = ds.length := by
  rw [shownAll_map]
  refine ⟨?_, by rw [List.length_map]⟩
  have q := sum_le_of (l := ((ds.map PyData.shown).map (·.length))) (m := m) (fun x hx => by
    obtain ⟨s, hs, e⟩ := List.mem_map.mp hx
    obtain ⟨d, hd, e2⟩ := List.mem_map.mp hs
    rw [← e, ← e2]
    exact h d hd)
  rw [List.length_map, List.length_map] at q
  exact q
theorem small_seq {ds : List PyData} {n m : Nat} (hn : ds.length ≤ n) (h1 : ∀ d ∈ ds, d.showable = true) (h2 : ∀ d ∈ ds, d.depth ≤ 60) (h3 : ∀ d ∈ ds, d.shown.length ≤ m) (hz : n * m + 2 * n + 3 ≤ 16777216) : small (.list ds) ∧ small (.tuple ds) := by
  obtain ⟨a, b⟩ := seq_len h3
  have c : ds.length * m ≤ n * m := Nat.mul_le_mul_right _ hn
  have d1 := depthAll_of h2
  refine ⟨⟨by simp only [PyData.showable]; exact showableAll_of h1, by simp only [PyData.depth]; omega, ?_⟩, by simp only [PyData.showable]; exact showableAll_of h1, by simp only [PyData.depth]; omega, ?_⟩
  · simp only [PyData.shown]
    have q := listText_len_le (PyData.shownAll ds)
    rw [sizeLine_eq]
    omega
  · simp only [PyData.shown]
    have q := tupleText_len_le (PyData.shownAll ds)
    rw [sizeLine_eq]
    omega
theorem gd_seq {ds : List PyData} {n m : Nat} (hn : ds.length ≤ n) (h1 : ∀ d ∈ ds, d.showable = true) (h2 : ∀ d ∈ ds, d.depth ≤ 9) (h3 : ∀ d ∈ ds, d.shown.length ≤ m) (hz : n * m + 2 * n + 3 ≤ 100000) : Gd (.list ds) ∧ Gd (.tuple ds) := by
  obtain ⟨a, b⟩ := seq_len h3
  have c : ds.length * m ≤ n * m := Nat.mul_le_mul_right _ hn
  have d1 := depthAll_of h2
  refine ⟨⟨by simp only [PyData.showable]; exact showableAll_of h1, by simp only [PyData.depth]; omega, ?_⟩, by simp only [PyData.showable]; exact showableAll_of h1, by simp only [PyData.depth]; omega, ?_⟩
  · simp only [PyData.shown]
    have q := listText_len_le (PyData.shownAll ds)
    omega
  · simp only [PyData.shown]
    have q := tupleText_len_le (PyData.shownAll ds)
    omega
theorem small_of_gd {ds : List PyData} (hn : ds.length ≤ 100) (h : ∀ d ∈ ds, Gd d) : small (.list ds) ∧ small (.tuple ds) :=
  small_seq hn (fun d hd => (h d hd).sh) (fun d hd => Nat.le_trans (h d hd).dp (by decide)) (fun d hd => (h d hd).ln) (by decide)
theorem Gd.small {d : PyData} (h : Gd d) : small d := ⟨h.sh, Nat.le_trans h.dp (by decide), Nat.le_trans h.ln (by rw [sizeLine_eq]; decide)⟩
theorem gd_dict1 {x : Str} {z : Int} (hx : ∀ c ∈ x.cps.toList, c < 16 ^ 8) (hl : x.length ≤ 1000) (h : z.natAbs < 2 ^ 1920) : Gd (.dict [(.str x, .int z)]) := by
  have l := log_small h
  refine ⟨by simp only [PyData.showable, PyData.showableKv, l, decide_true, Bool.and_self], by simp only [PyData.depth, PyData.depthKv]; decide, ?_⟩
  simp only [PyData.shown, PyData.shownKv]
  have q := dictText_len_le [reprText x ++ ": " ++ (Str.ofString (toString z))]
  have r := StrLaws.reprText_len x hx
  have s := int_text_len_1921 l
  simp only [List.map_cons, List.map_nil, List.sum_cons, List.sum_nil, List.length_cons, List.length_nil, strLen_append] at q
  have t : (Str.ofString ": ").length = 2 := by decide +kernel
  refine Nat.le_trans q ?_
  have t2 : ((": " : String) : Str).length = 2 := t
  omega

/-- for i, x in enumerate(a list) -/
theorem for_enumL {K : PySem.W.Frag} {a : Addr} {xs : List V} {g : TG} {tb : TS} {D : Ends} {σ : L2.St} {H : Hp} (Pv : Nat → L2.St → Hp → Prop) (h0 : Pv 0 σ H) (hq : ∀ i σ H, Pv i σ H → SqL K H a xs)
    (hs : ∀ (i : Nat) (x : V) (T : Addr) (σ : L2.St) (H : Hp), xs[i]? = some x → Pv i σ H → H T = none → g (.ref T) σ (upd H T (.tup [.int (i : Nat), x])) fun σ2 H2 => tb { D with nx := Pv (i + 1), ct := Pv (i + 1), bk := D.nx } σ2 H2) (hd : ∀ σ H, Pv xs.length σ H → D.nx σ H) :
    ∃ W : Nat → Nat → L2.St → Hp → Prop, (∃ m, W 0 m σ H) ∧ ∀ i m σ H, W i m σ H →
      ((Ite K a).stop i H ∧ D.nx σ H) ∨ ((Ite K a).go i H ∧ ∃ N : L2.St → Hp → Prop, (∀ σ' H', N σ' H' → ∃ m', m' < m ∧ W (i + 1) m' σ' H') ∧ ∀ v H', (Ite K a).yld i H v H' → g v σ H' fun σ2 H2 => tb { D with nx := N, ct := N, bk := D.nx } σ2 H2) := by
  refine ⟨fun i m σ H => m + i = xs.length ∧ Pv i σ H, ⟨xs.length, rfl, h0⟩, fun i m σ H ⟨e, p⟩ => ?_⟩
  have q := hq i σ H p
  match m, e with
  | 0, e =>
    have e2 : i = xs.length := by omega
    rw [e2] at p ⊢
    exact .inl ⟨⟨xs, q, Nat.le_refl _⟩, hd σ H p⟩
  | m + 1, e =>
    have lt : i < xs.length := by omega
    refine .inr ⟨⟨xs, xs[i], q, List.getElem?_eq_getElem lt⟩, Pv (i + 1), fun σ' H' p' => ⟨m, Nat.lt_succ_self m, by omega, p'⟩, fun v H' y => ?_⟩
    obtain ⟨T, x, e1, n, e2, hx⟩ := y
    rw [e1, e2]
    exact hs i x T σ H (hx xs q) p n
end Vf

set_option maxRecDepth 100000
set_option maxHeartbeats 4000000
/-! the end of a law's row, from its promise where no guard stands; what the top has written, read off -/
namespace Vf
open PySem PySem.Spec PyProof.Rows L2
/-- what is known of the law's def at the heap behind the top -/
def LawG (l : PySem.W.OpenLaw) (w : World) (K : PySem.W.Frag) (C : CXT) (k n : Nat) (x : Str) (mg : Str → Option Value) (fa : Addr) (h : Heap) : Prop :=
  ∃ (fd : FuncData) (cs : List (Addr × Addr)) (sp : Sp), (∀ p ∈ cs, h.get? p.2 = some { cls := .none, data := .fields #[] }) ∧ (∀ p ∈ cs, K.lookup p.2 = none) ∧ (∀ p ∈ cs, PySem.W.CodeHd h p.1 p.2) ∧
    (∀ (s : Shared) (u : Value), BindsTo s fd ⟨[u], []⟩ [(x, u)]) ∧
    (∀ (H : Hp) (a : Addr) (ns : List Int), ns.length ≤ n → (∀ z ∈ ns, Builtin.Int.intBits z ≤ 1048576) → (∀ p ∈ cs, H p.2 = some (.tbl #[])) → SqL K H a (ns.map V.int) → sp [.ref a] H (fun v _ => v = .bl true) E0) ∧
    ∀ b : Heap, K.In b → b.Ns mainGlobals mg → M1 b → (∀ p ∈ cs, LamX.TabB b mg p.1 p.2) → FnG l.prog w K mg b C k fa fd [x] sp
theorem walkG {l : PySem.W.OpenLaw} {n k : Nat} {q : Program} {loose : List Str} {XP : (Str → Option Value) → Heap → Prop} {YP : World → Heap → Prop} {d : DefRec} {K : Params → PySem.W.Frag} {C : World → CXT} {x : Str}
    (hn : l.most = some n) (hn2 : n ≤ sizeLine) (hdf : d.params.defaults = []) (hr : Room k callerA) (hi : importsNone q = true) (hY : ∀ (w : World) (h : Heap), YP w h → (K w.params).In h)
    (F : ∀ (w : World) (mg : Str → Option Value) (fa : Addr) (h : Heap), YP w h → (K w.params).In h → h.Ns mainGlobals mg → mg d.name = some (.ref fa) → LawG l w (K w.params) (C w) k n x mg fa h)
    (hE : ∀ (w : World) (H : Hp) (s : Shared) (e : Value) (s' : Shared), C w [] H s E0 e s' → False) : PySem.W.WalkO q loose XP YP l.row.toRowW d [] (fun f vs => PySem.call f vs) := by
  refine Att.attach_callB hn hdf fun w s0 s1 mg mb fa o pm cd doc a vs ns G Y ho hd hcd hmg hobj hints hlen hbits hg => ?_
  have X := hY w _ Y
  obtain ⟨fd, cs, sp, hT, nT, hC, bind, hsp, hF⟩ := F w mg fa _ Y X G.T.g hmg
  have m1 : M1 s1.heap := by
    obtain ⟨mm, ⟨o, es, ep, e, dt, _⟩, _⟩ := (G.T.seer hi).mods
    exact ⟨o, es, ep, e, dt⟩
  exact law_enter X G.T.g G.T.b G.T.builtins G.T.nolimit hg hT nT hC G.T.bmain m1 hobj hints (Nat.le_trans hlen hn2) hr hF bind (fun H h1 h2 => hsp H a ns hlen hbits h1 h2) fun H e s' => hE w H s1 e s'

/-- a def of the text, as the written part tells it -/
structure Wr (K : PySem.W.Frag) (qual x : Str) (st : Stmt) (f : Addr) : Prop where
  ex : ∃ fd, Fun K x qual st f fd
theorem wr_mk {K : PySem.W.Frag} {x qual : Str} {st : Stmt} {f : Addr} {oc : Value} {od an : Option Addr} {osl : Array (Option Value)} {kV doc pm cdv ct : Value} (l : K.lookup f = some ⟨oc, od, .func (PySem.W.fnOf x qual (defArgs st) (defBody st) (defScope st) .none kV doc pm an cdv ct), osl⟩)
    (c : PySem.W.codeIn K cdv qual = true) (k : PySem.W.keepIn K (.ref f) = true) : Wr K qual x st f := ⟨_, fun_mk l c k⟩
/-- an exception class, its facts in one look -/
def oexB (K : PySem.W.Frag) (C : Addr) : Bool :=
  decide (PySem.W.findIn K (.ref C) "__setattr__" = some (some (.builtin "object.__setattr__"))) && (decide (PySem.W.subIn K (.ref C) (.type "BaseException") = some true) &&
    (decide (PySem.W.typeIn K (.ref C) = some (.type "type")) && PySem.W.keepIn K (.ref C)))
theorem oexB_ok {K : PySem.W.Frag} {C : Addr} (h : oexB K C = true) (c : ∃ nm q N bs bm sn sub ab col dd k0 k1 k2 k3 k5, K.lookup C = some (excClassObj nm q C N bs bm true sn sub ab col dd k0 k1 k2 k3 k5 "ValueError.__new__") ∧ PySem.HandSPX.refsVE bm = true) : OexC K C := by
  obtain ⟨h1, h⟩ := Bool.and_eq_true_iff.mp h
  obtain ⟨h2, h⟩ := Bool.and_eq_true_iff.mp h
  obtain ⟨h3, h4⟩ := Bool.and_eq_true_iff.mp h
  exact ⟨c, of_decide_eq_true h1, of_decide_eq_true h2, of_decide_eq_true h3, h4⟩
end Vf

set_option maxRecDepth 100000
set_option maxHeartbeats 4000000
/-! rules: several clauses with a name each; // by any great int -/
namespace Vf
open PySem PySem.Spec PyProof.Rows L2
/-- what each clause «except c as n» wishes, n in slot i, from the first one on -/
def wEach (K : PySem.W.Frag) (i : Nat) (Wo : WX) (D : Ends) : List (Value × (Addr → Value → Option Addr → TS)) → WX
  | [] => Wo
  | (c, ts) :: r => wAs K c i ts (wEach K i Wo D r) D
inductive Each (X : Cx) (i : Nat) : List ExceptHandler → List (Value × (Addr → Value → Option Addr → TS)) → Prop
  | nil : Each X i [] []
  | cons {x n : Str} {c : Value} {ts : Addr → Value → Option Addr → TS} {b : Stmt} {bs : List Stmt} {p q : Pos} {hds : List ExceptHandler} {l : List (Value × (Addr → Value → Option Addr → TS))} (nm : Names X x c) (at_ : X.N[i]? = some n) (lo : X.env.kindOf n = some .local)
      (su : ∀ (a : Addr) (oe : Obj) (cls : Value) (d : Option Addr) (pn : List (Addr × Obj)), Zc cls d oe → (∃ vs, oe.data = .fields vs) → PSs (X.suite a ((a, oe) :: pn)) (b :: bs) (ts a cls d)) (t : Each X i hds l) :
      Each X i (.ExceptHandler (some (.Name x p)) (some n) (b :: bs) q :: hds) ((c, ts) :: l)
section
variable {X : Cx} {i : Nat} {body : List Stmt} {h1 : ExceptHandler} {hs : List ExceptHandler} {l : List (Value × (Addr → Value → Option Addr → TS))} {pos : Pos} {tb : WX → TS} {Wo : WX}
/-- try: body / except .. as n: .. / except .. as n: .. -/
theorem ps_try_each (st : X.stack = X.env :: X.outer) (fr : X.env.frame = some X.env.locals) (nd : X.N.Nodup) (tk : Takes X Wo)
    (bd : ∀ (W : WX) (pn : List (Addr × Obj)) (xe : Value → Shared → Prop), Takes (X.tr pn xe) W → PassesOwn (model X.prog X.w) X.A X.env xe → PSs (X.tr pn xe) body (tb W)) (hd : Each X i (h1 :: hs) l) :
    PS X (.Try body (h1 :: hs) [] [] pos) (fun D σ H => tb (wEach X.K i Wo D l) D σ H) := by
  refine ⟨fun pins s σ H D I h => wpAny_Try_except ?_⟩
  have ok := I.ok
  have A1 : X.A.frames = some (X.env :: X.outer) := ok.frames.trans (congrArg some st)
  have run := (bd (wEach X.K i Wo D l) (X.pn ++ pins) (fun e s1 => wpAny (model X.prog X.w) X.A (noteFrame e X.env) (fun _ s2 => wpAny (model X.prog X.w) X.A (setFlight e none) (fun _ s3 => wpAny (model X.prog X.w) X.A (handleBy e X.env (h1 :: hs)) (SP X pins D) X.xe s3) X.xe s2) X.xe s1)
    (fun u s' xx => ?_) PassesOwn.looking).run [] s σ H D (I.toTry _) h
  · refine wpAny_mono run (fun f s1 z => ?_) fun e s1 z => z
    match f, z with
    | .next, ⟨σ', H', J, q⟩ => exact wpAny_execs_nil ⟨σ', H', J.ofTry ok, q⟩
    | .brk, ⟨σ', H', J, q⟩ => exact ⟨σ', H', J.ofTry ok, q⟩
    | .cont, ⟨σ', H', J, q⟩ => exact ⟨σ', H', J.ofTry ok, q⟩
    | .ret u, ⟨v, σ', H', J, r, q⟩ => exact ⟨v, σ', H', J.ofTry ok, r, q⟩
  · obtain ⟨a, B, sI, pins', σ1, H1, cls, d, ea, J', nb, up, sky, na, os, ag, w⟩ := xx
    subst ea
    have J : Inv X pins σ1 H1 sI := J'.ofTry ok
    rw [st] at sky
    show wpAny (model X.prog X.w) X.A (noteFrame (.ref a) X.env) _ _ _
    refine Sky.land Zc.steady A1 fr sky fun h3 fl up3 => ?_
    have J3 : Inv X pins σ1 H1 { s' with heap := h3 } := J.landed nb fl.1 (up.trans up3) os ag
    obtain ⟨oe, vs, he, hz, hdt⟩ := fl.there
    have out : a ∉ frs (X.env :: X.outer) := fun m => by
      obtain ⟨_, o2, e2, ne⟩ := fl.2.2.1.mem m
      rw [he] at e2
      cases e2
      exact ne _ hdt
    have notL : a ≠ X.env.locals := fun z => out (List.mem_filterMap.mpr ⟨X.env, List.mem_cons_self, by rw [fr, z]⟩)
    have notF : a ∉ X.fs := fun m => by
      obtain ⟨e, he, q⟩ := List.mem_filterMap.mp m
      exact out (List.mem_filterMap.mpr ⟨e, List.mem_cons_of_mem _ he, q⟩)
    have S3 := J3.suite he hdt na notL notF
    have ty : PySem.W.Looks (model X.prog X.w) h3 (typeOf (.ref a)) cls := fun A Q E s k q => wpAny_typeOf_ref (k _ _ he) (by rw [hz.1]; exact q)
    have each : ∀ (hs2 : List ExceptHandler) (l2 : List (Value × (Addr → Value → Option Addr → TS))), Each X i hs2 l2 → wEach X.K i Wo D l2 cls d σ1 H1 → wpAny (model X.prog X.w) X.A (handleBy (.ref a) X.env hs2) (SP X pins D) X.xe { s' with heap := h3 } := by
      intro hs2 l2 hk
      induction hk with
      | nil =>
        intro wo
        refine wpAny_handleBy_nil ?_
        obtain ⟨_, _, _, o2, v2, T2, oT2, t2, g1, g2, g3, g4, g5⟩ := id fl
        unfold PySem.passOn
        refine wpAny_bind (wpAny_field g1 g3 g4 ?_)
        rw [if_neg (show ¬ ((Value.ref T2 == Value.none) = true) from by simp)]
        have last : wpAny (model X.prog X.w) X.A (setFlight (.ref a) X.env.frame) (fun _ s4 => wpAny (model X.prog X.w) X.A (throw (.ref a) : Sem Flow) (SP X pins D) X.xe s4) X.xe { s' with heap := h3 } := by
          rw [fr]
          refine HandSPX.setFlight_upZ fl fun h4 up4 u4 => wpAny_throw (tk _ _ ⟨a, B, sI, pins, σ1, H1, cls, d, rfl, J, nb, (up.trans up3).trans u4, .inr (.inr (by rw [st]; exact up4)), na, os, ag, wo⟩)
        first
          | exact wpAny_bind (wpAny_pure (wpAny_bind last))
          | exact wpAny_bind last
      | @cons x n c ts b bs p q hds l3 nm at_ lo su t ih =>
        intro wo
        obtain ⟨k, hk, yes, no⟩ := wo
        refine wpAny_handleBy_cons (codeAny_handlers_test ?_) (by intro q; cases q)
        have LM := PySem.W.exm_one (M := model X.prog X.w) (J3.kIn) ty hk
        have see : ∀ {Q : Value → Shared → Prop} {E : Value → Shared → Prop}, Q c { s' with heap := h3 } → wpAny (model X.prog X.w) (X.A.mark (some (.ref a))) (eval (.Name x p) X.env) Q E { s' with heap := h3 } := by
          intro Q E q
          obtain ⟨g1, g2, g3 | ⟨g3, g4, g5⟩⟩ := nm
          · exact ld_glob (X := X.suite a ((a, oe) :: (X.pn ++ pins))) S3 g1 g3 q g2
          · exact ld_blt (X := X.suite a ((a, oe) :: (X.pn ++ pins))) S3 g1 g3 g4 q g5 g2
        refine see (LM.here ?_)
        cases k with
        | false =>
          show wpAny _ X.A (handleBy (.ref a) X.env hds) _ _ _
          exact ih (no rfl)
        | true =>
          refine codeAny_handlers_suite_as (HandSPX.lands_againZ fl fun h4 fl4 up4 => ?_)
          have J4 : Inv X pins σ1 H1 { s' with heap := h4 } := J.landed nb fl4.1 ((up.trans up3).trans up4) os ag
          obtain ⟨o4, v4, e4, z4, d4⟩ := fl4.there
          have S4 := J4.suite e4 d4 na notL notF
          refine store_ok (X := X.suite a ((a, o4) :: (X.pn ++ pins))) (v := .ref a) S4 nd at_ (.inl lo) rfl (fun s5 S5 => ?_) (.inr lo)
          refine wpAny_mono ((su a o4 cls d (X.pn ++ pins) z4 ⟨_, d4⟩).run [] s5 _ H1 _ S5 (yes rfl a na)) (fun f s6 z => ?_) (fun _ _ z => False.elim z)
          have away : ∀ {σ6 : L2.St} {H6 : Hp} {Q : Shared → Prop}, Inv (X.suite a ((a, o4) :: (X.pn ++ pins))) [] σ6 H6 s6 → (∀ s7, Inv X pins (σ6.set i none) H6 s7 → Q s7) →
              wpAny (model X.prog X.w) X.A (do bindName X.env n .none; unbindBehindTheSuite X.env n q) (fun _ s7 => Q s7) X.xe s6 := fun S6 g => gone_ok (S6.unsuite ok) nd at_ lo g
          match f, z with
          | .next, ⟨σ6, H6, S6, g⟩ => exact away S6 fun s7 J7 => ⟨_, _, J7, g⟩
          | .brk, ⟨σ6, H6, S6, g⟩ => exact away S6 fun s7 J7 => ⟨_, _, J7, g⟩
          | .cont, ⟨σ6, H6, S6, g⟩ => exact away S6 fun s7 J7 => ⟨_, _, J7, g⟩
          | .ret u, ⟨v6, σ6, H6, S6, r6, g⟩ => exact away S6 fun s7 J7 => ⟨_, _, _, J7, r6, g⟩
    exact each _ _ hd w
end
/-- // by an int that is not 0, below 2 ^ 9000 in size -/
def CDivZ (_ j : Int) : Prop := j ≠ 0 ∧ j.natAbs.log2 < 9000
theorem op_fdivZ {X : Cx} : OpR X (binaryOp .FloorDiv) (rI CDivZ fun i j => .int (i.fdiv j)) := opI fun i j _ _ _ _ _ hc q => floordiv_int hc.1 q (.inl (PyProof.noPylong_of_log2 hc.2))
end Vf

/-! ratios: the mathematics -/
namespace Vf
/-- the greatest common divisor, with the sign of the bottom -/
def sg (t b : Int) : Int := if b < 0 then -((Nat.gcd t.natAbs b.natAbs : Nat) : Int) else ((Nat.gcd t.natAbs b.natAbs : Nat) : Int)
/-- in lowest terms -/
def low (t b : Int) : Int × Int := (t.fdiv (sg t b), b.fdiv (sg t b))
theorem fdiv_of_mul {s k : Int} (h : s ≠ 0) : (s * k).fdiv s = k := Int.mul_fdiv_cancel_left k h
theorem gcd_pos {t b : Int} (h : b ≠ 0) : 0 < Nat.gcd t.natAbs b.natAbs := Nat.gcd_pos_of_pos_right _ (by omega)
theorem sg_ne {t b : Int} (h : b ≠ 0) : sg t b ≠ 0 := by
  have g := gcd_pos (t := t) h
  unfold sg
  split <;> omega
/-- t and b are the sign's multiples -/
theorem sg_dvd {t b : Int} (h : b ≠ 0) : ∃ t' b' : Int, t = sg t b * t' ∧ b = sg t b * b' ∧ 0 < b' ∧ Nat.gcd t'.natAbs b'.natAbs = 1 := by
  have g := gcd_pos (t := t) h
  generalize hG : Nat.gcd t.natAbs b.natAbs = G at g
  have d1 : ((G : Nat) : Int) ∣ t := Int.ofNat_dvd_left.mpr (by rw [← hG]; exact Nat.gcd_dvd_left _ _)
  have d2 : ((G : Nat) : Int) ∣ b := Int.ofNat_dvd_left.mpr (by rw [← hG]; exact Nat.gcd_dvd_right _ _)
  obtain ⟨x, hx⟩ := d1
  obtain ⟨y, hy⟩ := d2
  have one : Nat.gcd x.natAbs y.natAbs = 1 := by
    have e1 : t.natAbs = G * x.natAbs := by rw [hx, Int.natAbs_mul, Int.natAbs_natCast]
    have e2 : b.natAbs = G * y.natAbs := by rw [hy, Int.natAbs_mul, Int.natAbs_natCast]
    have e3 : Nat.gcd (G * x.natAbs) (G * y.natAbs) = G * Nat.gcd x.natAbs y.natAbs := Nat.gcd_mul_left _ _ _
    rw [← e1, ← e2, hG] at e3
    have e4 : G * 1 = G * Nat.gcd x.natAbs y.natAbs := by omega
    exact (Nat.eq_of_mul_eq_mul_left g e4).symm
  have gp : (0 : Int) < (G : Int) := by omega
  have sg_e : sg t b = if b < 0 then -(G : Int) else (G : Int) := by unfold sg; rw [hG]
  by_cases hb : b < 0
  · refine ⟨-x, -y, ?_, ?_, ?_, ?_⟩
    · rw [sg_e, if_pos hb, Int.neg_mul_neg]; exact hx
    · rw [sg_e, if_pos hb, Int.neg_mul_neg]; exact hy
    · rw [hy] at hb
      have : y < 0 := by
        rcases Int.lt_or_le y 0 with z | z
        · exact z
        · have := Int.mul_nonneg (Int.le_of_lt gp) z
          omega
      omega
    · rw [Int.natAbs_neg, Int.natAbs_neg]; exact one
  · refine ⟨x, y, ?_, ?_, ?_, one⟩
    · rw [sg_e, if_neg hb]; exact hx
    · rw [sg_e, if_neg hb]; exact hy
    · rcases Int.lt_or_le 0 y with z | z
      · exact z
      · have h2 : (G : Int) * y ≤ 0 := Int.mul_nonpos_of_nonneg_of_nonpos (Int.le_of_lt gp) z
        rw [← hy] at h2
        omega
theorem low_eq {t b t' b' : Int} (h : b ≠ 0) (e1 : t = sg t b * t') (e2 : b = sg t b * b') : low t b = (t', b') := by
  have s := sg_ne (t := t) h
  unfold low
  have a1 : t.fdiv (sg t b) = t' := by
    have z := fdiv_of_mul (s := sg t b) (k := t') s
    rw [← e1] at z
    exact z
  have a2 : b.fdiv (sg t b) = b' := by
    have z := fdiv_of_mul (s := sg t b) (k := b') s
    rw [← e2] at z
    exact z
  rw [a1, a2]
/-- in lowest terms: its bottom is above 0, nothing is common -/
structure Low (t b : Int) : Prop where
  pos : 0 < b
  one : Nat.gcd t.natAbs b.natAbs = 1
theorem low_is {t b : Int} (h : b ≠ 0) : Low (low t b).1 (low t b).2 := by
  obtain ⟨x, y, e1, e2, hp, ho⟩ := sg_dvd (t := t) h
  rw [low_eq h e1 e2]
  exact ⟨hp, ho⟩
theorem low_id {t b : Int} (h : Low t b) : low t b = (t, b) := by
  have hb : b ≠ 0 := by have := h.pos; omega
  have e : sg t b = 1 := by unfold sg; rw [h.one, if_neg (by have := h.pos; omega)]; rfl
  exact low_eq hb (by rw [e, Int.one_mul]) (by rw [e, Int.one_mul])
theorem sg_scale {t b k : Int} (hk : 0 < k) : sg (t * k) (b * k) = sg t b * k := by
  have e : Nat.gcd (t * k).natAbs (b * k).natAbs = Nat.gcd t.natAbs b.natAbs * k.natAbs := by
    rw [Int.natAbs_mul, Int.natAbs_mul, Nat.gcd_mul_right]
  have ek : ((k.natAbs : Nat) : Int) = k := by omega
  unfold sg
  rw [e]
  by_cases hb : b < 0
  · have : b * k < 0 := Int.mul_neg_of_neg_of_pos hb hk
    rw [if_pos hb, if_pos this, Int.natCast_mul, ek, Int.neg_mul]
  · have : ¬ b * k < 0 := by
      have := Int.mul_nonneg (show (0 : Int) ≤ b by omega) (Int.le_of_lt hk)
      omega
    rw [if_neg hb, if_neg this, Int.natCast_mul, ek]
theorem low_scale {t b k : Int} (h : b ≠ 0) (hk : 0 < k) : low (t * k) (b * k) = low t b := by
  obtain ⟨x, y, e1, e2, _, _⟩ := sg_dvd (t := t) h
  have hbk : b * k ≠ 0 := Int.mul_ne_zero h (by omega)
  rw [low_eq h e1 e2]
  refine low_eq hbk ?_ ?_
  · rw [sg_scale hk, Int.mul_assoc, Int.mul_comm k x, ← Int.mul_assoc, ← e1]
  · rw [sg_scale hk, Int.mul_assoc, Int.mul_comm k y, ← Int.mul_assoc, ← e2]
/-- a ratio k times over is the ratio -/
theorem low_back {t b k : Int} (h : Low t b) (hk : 0 < k) : low (t * k) (b * k) = (t, b) := by
  rw [low_scale (by have := h.pos; omega) hk, low_id h]
theorem low_size {t b : Int} (h : b ≠ 0) : (low t b).1.natAbs ≤ t.natAbs ∧ (low t b).2.natAbs ≤ b.natAbs := by
  obtain ⟨x, y, e1, e2, _, _⟩ := sg_dvd (t := t) h
  rw [low_eq h e1 e2]
  have s : 0 < (sg t b).natAbs := by have := sg_ne (t := t) h; omega
  have a1 : t.natAbs = (sg t b).natAbs * x.natAbs := by rw [← Int.natAbs_mul, ← e1]
  have a2 : b.natAbs = (sg t b).natAbs * y.natAbs := by rw [← Int.natAbs_mul, ← e2]
  rw [a1, a2]
  exact ⟨Nat.le_mul_of_pos_left _ s, Nat.le_mul_of_pos_left _ s⟩
theorem low_val {t b : Int} (h : b ≠ 0) : t * (low t b).2 = (low t b).1 * b := by
  obtain ⟨x, y, e1, e2, _, _⟩ := sg_dvd (t := t) h
  rw [low_eq h e1 e2]
  generalize sg t b = s at e1 e2
  rw [e1, e2]
  show s * x * y = x * (s * y)
  rw [Int.mul_comm s x, Int.mul_assoc]
theorem sg_size {t b : Int} (h : b ≠ 0) : (sg t b).natAbs ≤ b.natAbs := by
  have e : (sg t b).natAbs = Nat.gcd t.natAbs b.natAbs := by
    unfold sg
    split
    · rw [Int.natAbs_neg, Int.natAbs_natCast]
    · rw [Int.natAbs_natCast]
  rw [e]
  exact Nat.le_of_dvd (by omega) (Nat.gcd_dvd_right _ _)
/-- Euclid's laps: what holds ahead of the i-th -/
structure Lap (G P : Nat) (i : Nat) (a b : Int) : Prop where
  a0 : 0 ≤ a
  b0 : 0 ≤ b
  g : Nat.gcd a.natAbs b.natAbs = G
  le : i = 0 ∨ b ≤ a
  sm : a.natAbs * b.natAbs * 2 ^ (i - 1) ≤ P
theorem lap0 (x y : Int) : Lap (Nat.gcd x.natAbs y.natAbs) (x.natAbs * y.natAbs) 0 (if x < 0 then -x else x) (if y < 0 then -y else y) := by
  have e : ∀ z : Int, (if z < 0 then -z else z) = ((z.natAbs : Nat) : Int) := fun z => by split <;> omega
  rw [e, e]
  exact ⟨by omega, by omega, by rw [Int.natAbs_natCast, Int.natAbs_natCast], .inl rfl, by rw [Int.natAbs_natCast, Int.natAbs_natCast]; simp⟩
theorem lap_next {G P i : Nat} {a b : Int} (h : Lap G P i a b) (hb : b ≠ 0) : Lap G P (i + 1) b (a % b) := by
  have b1 : 0 < b := by have := h.b0; omega
  have r0 := Int.emod_nonneg a hb
  have r1 := Int.emod_lt_of_pos a b1
  obtain ⟨x, rfl⟩ := Int.eq_ofNat_of_zero_le h.a0
  obtain ⟨y, rfl⟩ := Int.eq_ofNat_of_zero_le h.b0
  have em : ((x : Int) % (y : Int)) = ((x % y : Nat) : Int) := by omega
  refine ⟨by omega, r0, ?_, .inr (by omega), ?_⟩
  · rw [em, Int.natAbs_natCast, Int.natAbs_natCast]
    have g := h.g
    rw [Int.natAbs_natCast, Int.natAbs_natCast] at g
    rw [Nat.gcd_comm, ← Nat.gcd_rec, Nat.gcd_comm]
    exact g
  · have s := h.sm
    rw [em]
    rw [Int.natAbs_natCast, Int.natAbs_natCast] at s ⊢
    rw [Nat.add_sub_cancel]
    have y1 : 0 < y := by omega
    rcases h.le with z | z
    · rw [z] at s ⊢
      simp only [Nat.zero_sub, Nat.pow_zero, Nat.mul_one] at s ⊢
      have : x % y ≤ x := Nat.mod_le _ _
      calc y * (x % y) ≤ y * x := Nat.mul_le_mul_left _ this
        _ = x * y := Nat.mul_comm _ _
        _ ≤ P := s
    · have hxy : y ≤ x := by omega
      have hm : 2 * (x % y) ≤ x := by
        have q := Nat.div_add_mod x y
        have q1 : 1 ≤ x / y := (Nat.le_div_iff_mul_le y1).mpr (by omega)
        have q2 : y * 1 ≤ y * (x / y) := Nat.mul_le_mul_left _ q1
        have q3 := Nat.mod_lt x y1
        omega
      by_cases hi : i = 0
      · rw [hi] at s ⊢
        simp only [Nat.zero_sub, Nat.pow_zero, Nat.mul_one] at s ⊢
        have : x % y ≤ x := Nat.mod_le _ _
        calc y * (x % y) ≤ y * x := Nat.mul_le_mul_left _ this
          _ = x * y := Nat.mul_comm _ _
          _ ≤ P := s
      · have ei : 2 ^ i = 2 * 2 ^ (i - 1) := by
          have : i = (i - 1) + 1 := by omega
          rw [this, Nat.pow_succ, Nat.add_sub_cancel, Nat.mul_comm]
        rw [ei]
        calc y * (x % y) * (2 * 2 ^ (i - 1)) = (2 * (x % y)) * (y * 2 ^ (i - 1)) := by
              rw [Nat.mul_comm y (x % y), Nat.mul_assoc, Nat.mul_left_comm y 2, ← Nat.mul_assoc (x % y) 2, Nat.mul_comm (x % y) 2]
          _ ≤ x * (y * 2 ^ (i - 1)) := Nat.mul_le_mul_right _ hm
          _ = x * y * 2 ^ (i - 1) := by rw [Nat.mul_assoc]
          _ ≤ P := s
theorem lap_end {G P i : Nat} {a b : Int} (h : Lap G P i a b) (hb : b = 0) : a = ((G : Nat) : Int) := by
  have g := h.g
  rw [hb] at g
  have e : Nat.gcd a.natAbs (0 : Int).natAbs = a.natAbs := Nat.gcd_zero_right _
  rw [e] at g
  have := h.a0
  omega
theorem lap_over {G P : Nat} {i : Nat} {a b : Int} (h : Lap G P i a b) (hi : 0 < i) (hP : P < 2 ^ (i - 1)) : b = 0 := by
  have s := h.sm
  have l : b ≤ a := by rcases h.le with z | z <;> omega
  rcases Nat.eq_zero_or_pos (a.natAbs * b.natAbs) with z | z
  · rcases Nat.mul_eq_zero.mp z with z | z
    · have := h.b0; omega
    · omega
  · have : 1 * 2 ^ (i - 1) ≤ a.natAbs * b.natAbs * 2 ^ (i - 1) := Nat.mul_le_mul_right _ z
    omega
end Vf

set_option maxRecDepth 100000
set_option maxHeartbeats 4000000
/-! rules: a list or tuple walked; == of data; == by a class's own def; rows of ratios -/
namespace Vf
open PySem PySem.Spec PyProof.Rows L2
section
variable {X : Cx} {tg : Expr}
/-- a walk over a list or a tuple -/
def iSeq (K : PySem.W.Frag) (tl : TE) : TI := fun σ H R => tl σ H fun x H1 => ∃ a, x = .ref a ∧ ((∃ xs, SqL K H1 a xs ∧ R (Itl K a) H1) ∨ (∃ xs, SqT K H1 a xs ∧ R (Itt K a) H1))
theorem pi_seq {l : Expr} {tl : TE} (hl : PE X l tl) : PI X tg l (iSeq X.K tl) := by
  refine ⟨fun pins s σ H R I h => ?_⟩
  refine thn (hl.run pins s σ H _ I h) fun v s1 ⟨x, H1, I1, r1, q1⟩ => ?_
  obtain ⟨a, e, q1⟩ := q1
  subst e
  rcases q1 with ⟨xs, hq, q⟩ | ⟨xs, hq, q⟩
  · cases r1
    obtain ⟨its, rv, p, hz⟩ := I1.list hq
    refine wpAny_pyIter_list p.isList ?_
    refine ⟨s1.heap.objs.size, [s1.heap.objs.size], _, _, H1, rfl, I1.kept (t' := s1.toks) fun b o e => Heap.get?_push_of_some _ e, turn_list a _, ⟨_, Heap.get?_push_size _ rfl, rfl, rfl⟩, fun b hb => ?_, q⟩
    have e : b = s1.heap.objs.size := by simpa using hb
    subst e
    exact I1.fpOk (Nat.le_refl _) (I1.hok.fresh (Nat.le_refl _))
  · cases r1
    obtain ⟨its, rv, p, hz⟩ := I1.tuple hq
    refine wpAny_pyIter_tuple (show s1.heap.IsTuple a its.toArray from p) ?_
    refine ⟨s1.heap.objs.size, [s1.heap.objs.size], _, _, H1, rfl, I1.kept (t' := s1.toks) fun b o e => Heap.get?_push_of_some _ e, turn_tuple a _, ⟨_, Heap.get?_push_size _ rfl, rfl, rfl⟩, fun b hb => ?_, q⟩
    have e : b = s1.heap.objs.size := by simpa using hb
    subst e
    exact I1.fpOk (Nat.le_refl _) (I1.hok.fresh (Nat.le_refl _))
/-- list(x), told by its constants alone -/
def rListOf (K : PySem.W.Frag) : List V → Hp → VK → Prop := fun xs H Q => ∃ p ys, xs = [.ref p] ∧ (SqL K H p ys ∨ SqT K H p ys) ∧ ∀ l, H l = none → Q (.ref l) (upd H l (.lst ys))
theorem call_listK : CallR X (.type "list") (rListOf X.K) := call_list_of
/-- == and != of data without dicts -/
def rEqT (K : PySem.W.Frag) : R2 := fun x y H Q => ∃ d e, Dt K H x d ∧ Dt K H y e ∧ d.plain = true ∧ e.plain = true ∧ d.depth ≤ 60 ∧ Q (.bl (PyData.eqv d e)) H
def rNeT (K : PySem.W.Frag) : R2 := fun x y H Q => ∃ d e, Dt K H x d ∧ Dt K H y e ∧ d.plain = true ∧ e.plain = true ∧ d.depth ≤ 60 ∧ Q (.bl (!PyData.eqv d e)) H
theorem op_eqT (hu : X.A.units + 64 < cLine) (m : M1 X.base) : OpR X (compareOp .Eq) (rEqT X.K) := by
  intro pins s σ H x y v u Q I rx ry h
  obtain ⟨d, e, hd, he, pd, pe, hz, q⟩ := h
  obtain ⟨as, r1, _⟩ := Dt.reads I m hd rx
  obtain ⟨bs, r2, _⟩ := Dt.reads I m he ry
  exact SeqAt.eq_plain r1 r2 pd pe (by have := Nat.min_le_left d.depth e.depth; omega) ⟨.bl _, H, I, rfl, q⟩
theorem op_neT (hu : X.A.units + 64 < cLine) (m : M1 X.base) : OpR X (compareOp .NotEq) (rNeT X.K) := by
  intro pins s σ H x y v u Q I rx ry h
  obtain ⟨d, e, hd, he, pd, pe, hz, q⟩ := h
  obtain ⟨as, r1, _⟩ := Dt.reads I m hd rx
  obtain ⟨bs, r2, _⟩ := Dt.reads I m he ry
  exact SeqAt.ne_plain r1 r2 pd pe (by have := Nat.min_le_left d.depth e.depth; omega) ⟨.bl _, H, I, rfl, q⟩
/-- x == y, x of the class at C whose own == is at g -/
def rEqO (K : PySem.W.Frag) (C : Addr) (sp : Sp) (E : XK) : R2 := fun x y H Q => ∃ a dx fs t, x = .ref a ∧ H a = some (.ins C dx fs) ∧ TyX K H y t ∧ PySem.W.notFirst K C t = true ∧ sp [x, y] H Q E
theorem op_eqO {CX : CXT} {C g : Addr} {k : Nat} {fd : FuncData} {ps : List Str} {sp : Sp} {E : XK} (hs : PySem.W.findIn X.K (.ref C) "__eq__" = some (some (.ref g))) (hf : PySem.W.isFn X.K (.ref g) = true)
    (F : FnOk X.prog X.w X.K X.mg X.base CX k g fd ps sp) (hb : Binds X.K fd ps []) (hr : Room k X.A) (hx : Passes CX X E) : OpR X (compareOp .Eq) (rEqO X.K C sp E) := by
  intro pins s σ H x y v u Q I rx ry h
  obtain ⟨a, dx, fs, t, rfl, ha, ty, hn, q⟩ := h
  cases (show v = Value.ref a from rx)
  obtain ⟨mA, O, _⟩ := ins_get I.hok ha
  obtain ⟨od, J, _⟩ := O.look
  obtain ⟨P, Z, p, _⟩ := kit_of I ry ty
  obtain ⟨m, hF⟩ := I.fr
  refine PySem.W.cmp_K (op := .Eq) (tb := t) hr.units0 hF I.ok.mod.kin J (Z.ty _ _ I.kIn p) hn hs hf ?_
  have hsp : sp ([V.ref a, y] ++ []) H Q E := q
  refine wpAny_mono (run_fn (us := [.ref a, u]) (vs := [.ref a, y]) F hr hb .nil hx I (.cons rfl (.cons ry .nil)) hsp) (fun w s' z => ?_) fun _ _ x => x
  obtain ⟨z', H', I', rz, qz⟩ := z
  exact SlX.cmpback rz ⟨z', H', I', rz, qz⟩
end
/-- what is new in the second heap -/
def nw (H H' : Hp) : Hp := fun b => match H b with
  | some _ => none
  | none => H' b
theorem nw_at {H H' : Hp} {b : Addr} {o : HO} (h : H b = none) (e : H' b = some o) : nw H H' b = some o := by
  unfold nw
  rw [h]
  exact e
theorem nw_get {H H' : Hp} {b : Addr} {o : HO} (e : nw H H' b = some o) : H b = none ∧ H' b = some o := by
  unfold nw at e
  split at e
  · cases e
  · exact ⟨by assumption, e⟩
theorem nw_sub {H H' : Hp} : Same (nw H H') H' := fun b o e => (nw_get e).2
/-- the heap without l and p -/
def fz (l p : Addr) (H : Hp) : Hp := fun b => if b = l ∨ b = p then none else H b
theorem fz_at {l p b : Addr} {H : Hp} {o : HO} (h1 : b ≠ l) (h2 : b ≠ p) (e : H b = some o) : fz l p H b = some o := by
  unfold fz
  rw [if_neg (fun z => z.elim h1 h2)]
  exact e
theorem fz_get {l p b : Addr} {H : Hp} {o : HO} (e : fz l p H b = some o) : b ≠ l ∧ b ≠ p ∧ H b = some o := by
  unfold fz at e
  by_cases h : b = l ∨ b = p
  · rw [if_pos h] at e
    cases e
  · rw [if_neg h] at e
    exact ⟨fun z => h (.inl z), fun z => h (.inr z), e⟩
theorem fz_sub {l p : Addr} {H : Hp} : Same (fz l p H) H := fun b o e => (fz_get e).2.2
theorem fz_mono {l p : Addr} {H H' : Hp} (k : ∀ b o, b ≠ l → b ≠ p → H b = some o → H' b = some o) : Same (fz l p H) (fz l p H') := fun b o e => by
  obtain ⟨h1, h2, h3⟩ := fz_get e
  exact fz_at h1 h2 (k b o h1 h2 h3)
theorem nw_fz {l p : Addr} {H H' : Hp} {o1 o2 : HO} (hl : H l = some o1) (hp : H p = some o2) : Same (nw H H') (fz l p H') := fun b o e => by
  obtain ⟨h1, h2⟩ := nw_get e
  exact fz_at (fun z => by rw [z, hl] at h1; cases h1) (fun z => by rw [z, hp] at h1; cases h1) h2
theorem some_free {p b : Addr} {H H' : Hp} {o : HO} (k : ∀ c u, c ≠ p → H c = some u → H' c = some u) (hp : H' p = some o) (n : H' b = none) : H b = none := by
  cases e : H b with
  | none => rfl
  | some u =>
    by_cases h : b = p
    · rw [h, hp] at n
      cases n
    · rw [k b u h e] at n
      cases n
/-! ### rows of ratios -/
def pairD (p : Int × Int) : PyData := .tuple [.int p.1, .int p.2]
/-- a row without the zeros behind -/
def strip (l : List (Int × Int)) : List (Int × Int) := (l.reverse.dropWhile fun p => p.1 == 0).reverse
theorem strip_nil : strip [] = [] := rfl
theorem strip_snoc (l : List (Int × Int)) (x : Int × Int) : strip (l ++ [x]) = if x.1 = 0 then strip l else l ++ [x] := by
  unfold strip
  rw [List.reverse_append]
  simp only [List.reverse_cons, List.reverse_nil, List.nil_append, List.singleton_append, List.dropWhile_cons, beq_iff_eq]
  split
  · rfl
  · rw [List.reverse_cons, List.reverse_reverse]
theorem snoc_ind {α : Type} {P : List α → Prop} (h0 : P []) (hs : ∀ l x, P l → P (l ++ [x])) : ∀ l, P l := fun l => by
  have h : ∀ r : List α, P r.reverse := fun r => by
    induction r with
    | nil => exact h0
    | cons x r ih => rw [List.reverse_cons]; exact hs _ _ ih
  have z := h l.reverse
  rw [List.reverse_reverse] at z
  exact z
theorem snoc_cases {α : Type} (l : List α) : l = [] ∨ ∃ r x, l = r ++ [x] := snoc_ind (P := fun l => l = [] ∨ ∃ r x, l = r ++ [x]) (.inl rfl) (fun l x _ => .inr ⟨l, x, rfl⟩) l
theorem strip_last : ∀ {l r : List (Int × Int)} {x : Int × Int}, strip l = r ++ [x] → x.1 ≠ 0 := by
  intro l
  refine snoc_ind (P := fun l => ∀ {r : List (Int × Int)} {x : Int × Int}, strip l = r ++ [x] → x.1 ≠ 0) (fun {r x} h => by simp [strip_nil] at h) (fun l y ih {r x} h => ?_) l
  rw [strip_snoc] at h
  split at h
  · exact ih h
  · have z := (List.append_inj' h rfl).2
    cases z
    assumption
theorem strip_pre (l : List (Int × Int)) : ∃ r, l = strip l ++ r ∧ ∀ x ∈ r, x.1 = 0 := by
  refine snoc_ind (P := fun l => ∃ r, l = strip l ++ r ∧ ∀ x ∈ r, x.1 = 0) ⟨[], rfl, fun x h => by cases h⟩ (fun l y ih => ?_) l
  rw [strip_snoc]
  split
  · rename_i h0
    obtain ⟨r, e, hr⟩ := ih
    refine ⟨r ++ [y], by rw [← List.append_assoc, ← e], fun x hx => ?_⟩
    rcases List.mem_append.mp hx with z | z
    · exact hr x z
    · rw [List.mem_singleton.mp z]; exact h0
  · exact ⟨[], by simp, fun x h => by cases h⟩
theorem strip_mem {l : List (Int × Int)} {x : Int × Int} (h : x ∈ strip l) : x ∈ l := by
  obtain ⟨r, e, _⟩ := strip_pre l
  rw [e]
  exact List.mem_append.mpr (.inl h)
theorem strip_len (l : List (Int × Int)) : (strip l).length ≤ l.length := by
  obtain ⟨r, e, _⟩ := strip_pre l
  have := congrArg List.length e
  rw [List.length_append] at this
  omega
theorem strip_id {l : List (Int × Int)} (h : ∀ r x, l = r ++ [x] → x.1 ≠ 0) : strip l = l := by
  rcases snoc_cases l with e | ⟨r, x, e⟩
  · rw [e]; rfl
  · have z := h r x e
    rw [e, strip_snoc, if_neg z]
/-- tuples of two whole numbers each, at their addresses -/
inductive Tups (H : Hp) : List Addr → List (Int × Int) → Prop
  | nil : Tups H [] []
  | cons {a : Addr} {as : List Addr} {p : Int × Int} {ps : List (Int × Int)} : H a = some (.tup [.int p.1, .int p.2]) → Tups H as ps → Tups H (a :: as) (p :: ps)
theorem Tups.len {H : Hp} : ∀ {as : List Addr} {ps : List (Int × Int)}, Tups H as ps → as.length = ps.length
  | _, _, .nil => rfl
  | _, _, .cons _ t => congrArg (· + 1) t.len
theorem Tups.imp {H H' : Hp} (e : ∀ (a : Addr) (p : Int × Int), H a = some (.tup [.int p.1, .int p.2]) → H' a = some (.tup [.int p.1, .int p.2])) : ∀ {as : List Addr} {ps : List (Int × Int)}, Tups H as ps → Tups H' as ps
  | _, _, .nil => .nil
  | _, _, .cons h t => .cons (e _ _ h) (t.imp e)
theorem Tups.same {H H' : Hp} (e : Same H H') {as : List Addr} {ps : List (Int × Int)} (h : Tups H as ps) : Tups H' as ps := h.imp fun a p q => e _ _ q
theorem Tups.snoc {H : Hp} : ∀ {as : List Addr} {ps : List (Int × Int)} {a : Addr} {p : Int × Int}, Tups H as ps → H a = some (.tup [.int p.1, .int p.2]) → Tups H (as ++ [a]) (ps ++ [p])
  | _, _, _, _, .nil, h => .cons h .nil
  | _, _, _, _, .cons h t, h2 => .cons h (t.snoc h2)
theorem Tups.unsnoc {H : Hp} : ∀ {as : List Addr} {ps : List (Int × Int)} {p : Int × Int}, Tups H as (ps ++ [p]) → ∃ as' a, as = as' ++ [a] ∧ Tups H as' ps ∧ H a = some (.tup [.int p.1, .int p.2])
  | _, [], _, .cons h .nil => ⟨[], _, rfl, .nil, h⟩
  | _, _ :: _, _, .cons h t => by
    obtain ⟨as', a, e, t', h'⟩ := t.unsnoc
    exact ⟨_ :: as', a, by rw [e]; rfl, .cons h t', h'⟩
theorem Tups.dts {K : PySem.W.Frag} {H : Hp} : ∀ {as : List Addr} {ps : List (Int × Int)}, Tups H as ps → Dts K H (as.map V.ref) (ps.map pairD)
  | _, _, .nil => .nil
  | _, _, .cons h t => .cons (.tup (SqT.of h) (.cons (.int _) (.cons (.int _) .nil))) t.dts
theorem Tups.app {H : Hp} : ∀ {as bs : List Addr} {ps qs : List (Int × Int)}, Tups H as ps → Tups H bs qs → Tups H (as ++ bs) (ps ++ qs)
  | _, _, _, _, .nil, h => h
  | _, _, _, _, .cons a t, h => .cons a (t.app h)
theorem Tups.take {H : Hp} : ∀ {as : List Addr} {ps : List (Int × Int)} (n : Nat), Tups H as ps → Tups H (as.take n) (ps.take n)
  | _, _, 0, _ => .nil
  | _, _, _ + 1, .nil => .nil
  | _, _, n + 1, .cons a t => .cons a (t.take n)
theorem Tups.at {H : Hp} : ∀ {as : List Addr} {ps : List (Int × Int)} {i : Nat} {a : Addr}, Tups H as ps → as[i]? = some a → ∃ p, ps[i]? = some p ∧ H a = some (.tup [.int p.1, .int p.2])
  | _, _, _, _, .nil, e => by simp at e
  | _, _, 0, _, .cons h _, e => by simp at e; subst e; exact ⟨_, rfl, h⟩
  | _, _, i + 1, a, .cons _ t, e => by
    obtain ⟨d, h1, h2⟩ := t.at (i := i) (a := a) (by simpa using e)
    exact ⟨d, by simpa using h1, h2⟩
theorem eqv_pair (p q : Int × Int) : PyData.eqv (pairD p) (pairD q) = decide (p = q) := by
  obtain ⟨a, b⟩ := p
  obtain ⟨c, d⟩ := q
  unfold pairD
  simp only [PyData.eqv, PyData.eqvAll, Bool.and_true]
  by_cases h1 : a = c <;> by_cases h2 : b = d <;> simp [h1, h2]
theorem eqvAll_pairs : ∀ l r : List (Int × Int), PyData.eqvAll (l.map pairD) (r.map pairD) = decide (l = r)
  | [], [] => by simp [PyData.eqvAll]
  | [], _ :: _ => by simp [PyData.eqvAll]
  | _ :: _, [] => by simp [PyData.eqvAll]
  | p :: l, q :: r => by
    simp only [List.map_cons, PyData.eqvAll, eqv_pair, eqvAll_pairs l r]
    by_cases h1 : p = q <;> by_cases h2 : l = r <;> simp [h1, h2]
theorem eqv_row (l r : List (Int × Int)) : PyData.eqv (.tuple (l.map pairD)) (.tuple (r.map pairD)) = decide (l = r) := by
  simp only [PyData.eqv]
  exact eqvAll_pairs l r
theorem eqv_rowL (l r : List (Int × Int)) : PyData.eqv (.list (l.map pairD)) (.list (r.map pairD)) = decide (l = r) := by
  simp only [PyData.eqv]
  exact eqvAll_pairs l r
theorem plain_pairs : ∀ l : List (Int × Int), PyData.plainAll (l.map pairD) = true
  | [] => by simp only [List.map_nil, PyData.plainAll]
  | p :: l => by
    simp only [List.map_cons, PyData.plainAll, plain_pairs l, pairD, PyData.plain, Bool.and_self]
theorem plain_row (l : List (Int × Int)) : (PyData.tuple (l.map pairD)).plain = true ∧ (PyData.list (l.map pairD)).plain = true := by
  simp only [PyData.plain]
  exact ⟨plain_pairs l, plain_pairs l⟩
theorem depth_pairs : ∀ l : List (Int × Int), PyData.depthAll (l.map pairD) ≤ 1
  | [] => by simp only [List.map_nil, PyData.depthAll]; omega
  | p :: l => by
    have h := depth_pairs l
    simp only [List.map_cons, PyData.depthAll, pairD, PyData.depth]
    exact Nat.max_le.mpr ⟨by simp, h⟩
theorem depth_row (l : List (Int × Int)) : (PyData.tuple (l.map pairD)).depth ≤ 60 ∧ (PyData.list (l.map pairD)).depth ≤ 60 := by
  have h := depth_pairs l
  simp only [PyData.depth]
  omega
/-- a comprehension over a list or a tuple -/
theorem lc_seq {K : PySem.W.Frag} {a : Addr} {xs : List V} {g : TG} {tt : TT} {te : TE} {vs : List Nat} {σ : L2.St} {H1 : Hp} {Qd : Addr → Hp → Prop} (h : SqL K H1 a xs ∨ SqT K H1 a xs) (Pv : Addr → Nat → Hp → Prop)
    (h0 : ∀ D, H1 D = none → Pv D 0 (upd H1 D (.lst []))) (hl : ∀ D i H, H1 D = none → Pv D i H → (SqL K H1 a xs → SqL K H a xs) ∧ (SqT K H1 a xs → SqT K H a xs))
    (hs : ∀ D i x H, H1 D = none → xs[i]? = some x → Pv D i H → g x (wipe σ vs) H fun σ2 H2 => wipe σ2 vs = wipe σ vs ∧ tt σ2 H2 fun b H3 =>
      if b = true then te σ2 H3 fun y H4 => ∃ acc, H4 D = some (.lst acc) ∧ acc.length < sizeLine ∧ Pv D (i + 1) (upd H4 D (.lst (acc ++ [y]))) else Pv D (i + 1) H3) (hd : ∀ D H, H1 D = none → Pv D xs.length H → Qd D H) :
    (∃ xs, SqL K H1 a xs ∧ ∀ D, H1 D = none → ∃ W : Nat → Nat → Hp → Prop, (∃ m, W 0 m (upd H1 D (.lst []))) ∧ ∀ i m H, W i m H →
      (((Itl K a).stop i H ∧ Qd D H) ∨ ((Itl K a).go i H ∧ ∃ Nx : Hp → Prop, (∀ H', Nx H' → ∃ m', m' < m ∧ W (i + 1) m' H') ∧ ∀ x H', (Itl K a).yld i H x H' → g x (wipe σ vs) H' fun σ2 H2 => wipe σ2 vs = wipe σ vs ∧ tt σ2 H2 fun b H3 =>
        if b = true then te σ2 H3 fun y H4 => ∃ acc, H4 D = some (.lst acc) ∧ acc.length < sizeLine ∧ Nx (upd H4 D (.lst (acc ++ [y]))) else Nx H3))) ∨
    (∃ xs, SqT K H1 a xs ∧ ∀ D, H1 D = none → ∃ W : Nat → Nat → Hp → Prop, (∃ m, W 0 m (upd H1 D (.lst []))) ∧ ∀ i m H, W i m H →
      (((Itt K a).stop i H ∧ Qd D H) ∨ ((Itt K a).go i H ∧ ∃ Nx : Hp → Prop, (∀ H', Nx H' → ∃ m', m' < m ∧ W (i + 1) m' H') ∧ ∀ x H', (Itt K a).yld i H x H' → g x (wipe σ vs) H' fun σ2 H2 => wipe σ2 vs = wipe σ vs ∧ tt σ2 H2 fun b H3 =>
        if b = true then te σ2 H3 fun y H4 => ∃ acc, H4 D = some (.lst acc) ∧ acc.length < sizeLine ∧ Nx (upd H4 D (.lst (acc ++ [y]))) else Nx H3))) := by
  rcases h with h | h
  · exact .inl ⟨xs, h, fun D hD => lc_list (K := K) (a := a) (xs := xs) (Pv D) (h0 D hD) (fun i H _ p => (hl D i H hD p).1 h) (fun i x H hi p => hs D i x H hD hi p) (fun H p => hd D H hD p)⟩
  · exact .inr ⟨xs, h, fun D hD => lc_tup (K := K) (a := a) (xs := xs) (Pv D) (h0 D hD) (fun i H _ p => (hl D i H hD p).2 h) (fun i x H hi p => hs D i x H hD hi p) (fun H p => hd D H hD p)⟩
theorem strip_strip (l : List (Int × Int)) : strip (strip l) = strip l := strip_id fun r x h => strip_last h
end Vf

set_option maxRecDepth 100000
set_option maxHeartbeats 4000000
/-! ratios and rows of them as numbers: the mathematics -/
namespace Vf
/-- a number as its pair -/
def pq (r : Rat) : Int × Int := (r.num, (r.den : Int))
theorem low_pq {t b : Int} (h : b ≠ 0) : low t b = pq (Rat.divInt t b) := by
  obtain ⟨x, y, e1, e2, hp, ho⟩ := sg_dvd (t := t) h
  have s := sg_ne (t := t) h
  have e : Rat.divInt t b = Rat.divInt x y := by
    calc Rat.divInt t b = Rat.divInt (sg t b * x) (sg t b * y) := by rw [← e1, ← e2]
      _ = Rat.divInt x y := Rat.divInt_mul_left s
  rw [low_eq h e1 e2, e]
  obtain ⟨n, rfl⟩ := Int.eq_ofNat_of_zero_le (Int.le_of_lt hp)
  have hn : n ≠ 0 := by omega
  have ho' : x.natAbs.Coprime n := ho
  have e2 : Rat.divInt x (n : Int) = ⟨x, n, hn, ho'⟩ := by
    rw [Rat.divInt_ofNat, Rat.mk_eq_mkRat]
  rw [e2]
  rfl
theorem pq_low (r : Rat) : Low (pq r).1 (pq r).2 := ⟨by have := r.den_pos; show (0 : Int) < (r.den : Int); omega, r.reduced⟩
theorem pq_inj {a b : Rat} (h : pq a = pq b) : a = b := by
  have h1 := congrArg Prod.fst h
  have h2 := congrArg Prod.snd h
  exact Rat.ext h1 (Int.ofNat.inj h2)
theorem low_is_pq {p : Int × Int} (h : Low p.1 p.2) : ∃ r : Rat, p = pq r := by
  refine ⟨Rat.divInt p.1 p.2, ?_⟩
  rw [← low_pq (by have := h.pos; omega), low_id h]
theorem cast_ne {M : Int} (h : M ≠ 0) : (M : Rat) ≠ 0 := fun z => h (by exact_mod_cast z)
theorem low_mul {A M : Int} {q : Rat} (hM : M ≠ 0) (h : q * (M : Rat) = (A : Rat)) : low A M = pq q := by
  rw [low_pq hM, Rat.divInt_eq_div]
  congr 1
  rw [← h, Rat.mul_div_cancel (cast_ne hM)]
theorem low_add (a b : Rat) : low (a.num * b.den + b.num * a.den) (a.den * b.den) = pq (a + b) := by
  have h : ((a.den : Int) * (b.den : Int)) ≠ 0 := by
    have := a.den_nz
    have := b.den_nz
    exact Int.mul_ne_zero (by omega) (by omega)
  rw [low_pq h, Rat.add_def', ← Rat.divInt_ofNat]
  congr 1
theorem low_times (a b : Rat) : low (a.num * b.num) (a.den * b.den) = pq (a * b) := by
  have h : ((a.den : Int) * (b.den : Int)) ≠ 0 := by
    have := a.den_nz
    have := b.den_nz
    exact Int.mul_ne_zero (by omega) (by omega)
  rw [low_pq h, Rat.mul_def', ← Rat.divInt_ofNat]
  congr 1
/-- a number is a whole part of 1 / M, at most N of them -/
def Fr (M N : Nat) (r : Rat) : Prop := ∃ n : Int, r * (M : Rat) = (n : Rat) ∧ n.natAbs ≤ N
theorem Fr.size {M N : Nat} {r : Rat} (hM : 0 < M) (h : Fr M N r) : r.num.natAbs ≤ N ∧ r.den ≤ M := by
  obtain ⟨n, e, hn⟩ := h
  have hM' : (M : Int) ≠ 0 := by omega
  have z := low_mul (A := n) (M := (M : Int)) (q := r) hM' (by exact_mod_cast e)
  obtain ⟨s1, s2⟩ := low_size (t := n) hM'
  rw [z] at s1 s2
  have s1 : r.num.natAbs ≤ n.natAbs := s1
  have s2 : (r.den : Int).natAbs ≤ (M : Int).natAbs := s2
  omega
theorem Fr.add {M N N' : Nat} {a b : Rat} (h : Fr M N a) (h' : Fr M N' b) : Fr M (N + N') (a + b) := by
  obtain ⟨n, e, hn⟩ := h
  obtain ⟨n', e', hn'⟩ := h'
  refine ⟨n + n', ?_, by omega⟩
  rw [Rat.add_mul, e, e']
  exact_mod_cast rfl
theorem Fr.mul {M N M' N' : Nat} {a b : Rat} (h : Fr M N a) (h' : Fr M' N' b) : Fr (M * M') (N * N') (a * b) := by
  obtain ⟨n, e, hn⟩ := h
  obtain ⟨n', e', hn'⟩ := h'
  refine ⟨n * n', ?_, ?_⟩
  · have : ((M * M' : Nat) : Rat) = (M : Rat) * (M' : Rat) := by exact_mod_cast rfl
    have h2 : ((n * n' : Int) : Rat) = (n : Rat) * (n' : Rat) := by exact_mod_cast rfl
    rw [this, h2, ← e, ← e']
    grind
  · rw [Int.natAbs_mul]
    exact Nat.mul_le_mul hn hn'
theorem Fr.neg {M N : Nat} {a : Rat} (h : Fr M N a) : Fr M N (-a) := by
  obtain ⟨n, e, hn⟩ := h
  refine ⟨-n, ?_, by omega⟩
  rw [Rat.neg_mul, e]
  exact_mod_cast rfl
theorem Fr.scale {M N : Nat} {a : Rat} (k : Nat) (h : Fr M N a) : Fr (M * k) (N * k) a := by
  obtain ⟨n, e, hn⟩ := h
  refine ⟨n * k, ?_, ?_⟩
  · have : ((M * k : Nat) : Rat) = (M : Rat) * (k : Rat) := by exact_mod_cast rfl
    have h2 : ((n * k : Int) : Rat) = (n : Rat) * (k : Rat) := by exact_mod_cast rfl
    rw [this, h2, ← e]
    grind
  · rw [Int.natAbs_mul, Int.natAbs_natCast]
    exact Nat.mul_le_mul_right _ hn
theorem Fr.zero (M N : Nat) : Fr M N 0 := ⟨0, by rw [Rat.zero_mul]; rfl, Nat.zero_le _⟩
theorem Fr.le {M N N' : Nat} {a : Rat} (h : Fr M N a) (e : N ≤ N') : Fr M N' a := by
  obtain ⟨n, e1, hn⟩ := h
  exact ⟨n, e1, by omega⟩
theorem Fr.self (r : Rat) : Fr r.den r.num.natAbs r := by
  refine ⟨r.num, ?_, Nat.le_refl _⟩
  have h : (r.den : Rat) ≠ 0 := by
    have := r.den_nz
    exact_mod_cast this
  have z : (r.num : Rat) / (r.den : Rat) = r := by
    have := Rat.num_divInt_den r
    rw [Rat.divInt_eq_div] at this
    exact_mod_cast this
  rw [← z]
  rw [z]
  have := Rat.div_mul_cancel (a := (r.num : Rat)) h
  rw [z] at this
  exact this
theorem Fr.dvd {M M' N : Nat} {a : Rat} (h : Fr M N a) (d : M ∣ M') : ∃ k, M' = M * k ∧ Fr M' (N * k) a := by
  obtain ⟨k, e⟩ := d
  exact ⟨k, e, by rw [e]; exact h.scale k⟩
/-- below 2 ^ 1900 above and below -/
def Sr (r : Rat) : Prop := r.num.natAbs < 2 ^ 1900 ∧ r.den < 2 ^ 1900
theorem Fr.sr {M N : Nat} {r : Rat} (hM : 0 < M) (h : Fr M N r) (h1 : M < 2 ^ 1900) (h2 : N < 2 ^ 1900) : Sr r := by
  obtain ⟨a, b⟩ := h.size hM
  exact ⟨Nat.lt_of_le_of_lt a h2, Nat.lt_of_le_of_lt b h1⟩
/-! ### rows -/
def cf (l : List Rat) (i : Nat) : Rat := l.getD i 0
theorem cf_lt {l : List Rat} {i : Nat} (h : i < l.length) : cf l i = l[i] := by
  unfold cf
  rw [List.getD_eq_getElem?_getD, List.getElem?_eq_getElem h]
  rfl
theorem cf_get {l : List Rat} {i : Nat} {x : Rat} (h : l[i]? = some x) : cf l i = x := by
  unfold cf
  rw [List.getD_eq_getElem?_getD, h]
  rfl
theorem cf_ge {l : List Rat} {i : Nat} (h : l.length ≤ i) : cf l i = 0 := by
  unfold cf
  rw [List.getD_eq_getElem?_getD, List.getElem?_eq_none h]
  rfl
theorem cf_nil (i : Nat) : cf [] i = 0 := rfl
theorem cf_app {l r : List Rat} {i : Nat} : cf (l ++ r) i = if i < l.length then cf l i else cf r (i - l.length) := by
  unfold cf
  rw [List.getD_eq_getElem?_getD, List.getD_eq_getElem?_getD, List.getD_eq_getElem?_getD]
  split
  · rw [List.getElem?_append_left (by assumption)]
  · rw [List.getElem?_append_right (by omega)]
/-- a row without zeros behind -/
def stripQ (l : List Rat) : List Rat := (l.reverse.dropWhile fun r => r == 0).reverse
theorem stripQ_snoc (l : List Rat) (x : Rat) : stripQ (l ++ [x]) = if x = 0 then stripQ l else l ++ [x] := by
  unfold stripQ
  rw [List.reverse_append]
  simp only [List.reverse_cons, List.reverse_nil, List.nil_append, List.singleton_append, List.dropWhile_cons, beq_iff_eq]
  split
  · rfl
  · rw [List.reverse_cons, List.reverse_reverse]
theorem strip_map (l : List Rat) : strip (l.map pq) = (stripQ l).map pq := by
  refine snoc_ind (P := fun l => strip (l.map pq) = (stripQ l).map pq) rfl (fun l x ih => ?_) l
  rw [List.map_append, List.map_cons, List.map_nil, strip_snoc, stripQ_snoc, ih]
  have e : ((pq x).1 = 0) ↔ x = 0 := Rat.num_eq_zero
  by_cases h : x = 0
  · rw [if_pos h, if_pos (e.mpr h)]
  · rw [if_neg h, if_neg (fun z => h (e.mp z)), List.map_append]
    rfl
theorem cf_stripQ (l : List Rat) : ∀ i, cf (stripQ l) i = cf l i := by
  refine snoc_ind (P := fun l => ∀ i, cf (stripQ l) i = cf l i) (fun i => rfl) (fun l x ih i => ?_) l
  rw [stripQ_snoc]
  split
  · rename_i h
    rw [ih, cf_app, h]
    split
    · rfl
    · rename_i h2
      rw [cf_ge (by omega)]
      by_cases h3 : i - l.length = 0
      · rw [h3]; rfl
      · rw [cf_ge (show ([0] : List Rat).length ≤ i - l.length by show 1 ≤ _; omega)]
  · rfl
/-- no zero behind -/
def Stp (l : List Rat) : Prop := ∀ r x, l = r ++ [x] → x ≠ 0
theorem stripQ_stp (l : List Rat) : Stp (stripQ l) := by
  refine snoc_ind (P := fun l => Stp (stripQ l)) (fun r x h => by simp [stripQ] at h) (fun l y ih r x h => ?_) l
  rw [stripQ_snoc] at h
  split at h
  · exact ih r x h
  · have z := (List.append_inj' h rfl).2
    cases z
    assumption
theorem stripQ_id {l : List Rat} (h : Stp l) : stripQ l = l := by
  rcases snoc_cases l with e | ⟨r, x, e⟩
  · rw [e]; rfl
  · have z := h r x e
    rw [e, stripQ_snoc, if_neg z]
theorem stp_last {l : List Rat} (h : Stp l) (hl : 0 < l.length) : cf l (l.length - 1) ≠ 0 := by
  rcases snoc_cases l with e | ⟨r, x, e⟩
  · rw [e] at hl; cases hl
  · have z := h r x e
    rw [e, List.length_append]
    show cf (r ++ [x]) (r.length + 1 - 1) ≠ 0
    rw [cf_app, if_neg (by omega)]
    rw [show r.length + 1 - 1 - r.length = 0 by omega]
    exact z
theorem stp_len {a b : List Rat} (h : Stp a) (e : ∀ i, cf a i = cf b i) : a.length ≤ b.length := by
  rcases Nat.lt_or_ge b.length a.length with z | z
  · have q := stp_last h (by omega)
    rw [e, cf_ge (by omega)] at q
    exact absurd rfl q
  · exact z
theorem stp_ext {a b : List Rat} (ha : Stp a) (hb : Stp b) (e : ∀ i, cf a i = cf b i) : a = b := by
  have h1 := stp_len ha e
  have h2 := stp_len hb fun i => (e i).symm
  refine List.ext_getElem (by omega) fun i p q => ?_
  have z := e i
  rw [cf_lt p, cf_lt q] at z
  exact z
theorem stripQ_ext {a b : List Rat} (e : ∀ i, cf a i = cf b i) : stripQ a = stripQ b :=
  stp_ext (stripQ_stp a) (stripQ_stp b) fun i => by rw [cf_stripQ, cf_stripQ, e]
/-- the row of n numbers -/
def tab (n : Nat) (f : Nat → Rat) : List Rat := (List.range n).map f
theorem tab_len (n : Nat) (f : Nat → Rat) : (tab n f).length = n := by unfold tab; rw [List.length_map, List.length_range]
theorem cf_tab (n : Nat) (f : Nat → Rat) (i : Nat) : cf (tab n f) i = if i < n then f i else 0 := by
  by_cases h : i < n
  · rw [if_pos h]
    refine cf_get ?_
    unfold tab
    rw [List.getElem?_map, List.getElem?_range h]
    rfl
  · rw [if_neg h, cf_ge (by rw [tab_len]; omega)]
theorem tab_snoc (n : Nat) (f : Nat → Rat) : tab (n + 1) f = tab n f ++ [f n] := by
  unfold tab
  rw [List.range_succ, List.map_append]
  rfl
def padd (a b : List Rat) : List Rat := tab (max a.length b.length) fun i => cf a i + cf b i
theorem cf_padd (a b : List Rat) (i : Nat) : cf (padd a b) i = cf a i + cf b i := by
  unfold padd
  rw [cf_tab]
  split
  · rfl
  · rw [cf_ge (show a.length ≤ i by omega), cf_ge (show b.length ≤ i by omega), Rat.add_zero]
def pscale (a : List Rat) (c : Rat) : List Rat := a.map (· * c)
theorem cf_map {f : Rat → Rat} (hf : f 0 = 0) (a : List Rat) (i : Nat) : cf (a.map f) i = f (cf a i) := by
  by_cases h : i < a.length
  · rw [cf_lt (by rw [List.length_map]; exact h), cf_lt h, List.getElem_map]
  · rw [cf_ge (by rw [List.length_map]; omega), cf_ge (by omega), hf]
/-- sums -/
def sm (f : Nat → Rat) : Nat → Rat
  | 0 => 0
  | n + 1 => sm f n + f n
theorem sm_ext {f g : Nat → Rat} : ∀ {n : Nat}, (∀ i, i < n → f i = g i) → sm f n = sm g n
  | 0, _ => rfl
  | n + 1, h => by
    show sm f n + f n = sm g n + g n
    rw [sm_ext fun i hi => h i (by omega), h n (by omega)]
theorem sm_zero {f : Nat → Rat} : ∀ {n : Nat}, (∀ i, i < n → f i = 0) → sm f n = 0
  | 0, _ => rfl
  | n + 1, h => by
    show sm f n + f n = 0
    rw [sm_zero fun i hi => h i (by omega), h n (by omega), Rat.add_zero]
theorem sm_more {f : Nat → Rat} {n : Nat} : ∀ {m : Nat}, n ≤ m → (∀ i, n ≤ i → i < m → f i = 0) → sm f m = sm f n
  | 0, h, _ => by
    have : n = 0 := by omega
    rw [this]
  | m + 1, h, z => by
    by_cases e : n = m + 1
    · rw [e]
    · show sm f m + f m = sm f n
      rw [sm_more (m := m) (by omega) fun i h1 h2 => z i h1 (by omega), z m (by omega) (by omega), Rat.add_zero]
theorem sm_fr {f : Nat → Rat} {M N : Nat} : ∀ {n : Nat}, (∀ i, i < n → Fr M N (f i)) → Fr M (n * N) (sm f n)
  | 0, _ => Fr.zero _ _
  | n + 1, h => by
    have a := sm_fr (n := n) fun i hi => h i (by omega)
    have b := h n (by omega)
    have c := a.add b
    rw [Nat.succ_mul]
    exact c
/-- the number of a power in a product -/
def pc (a b : List Rat) (k : Nat) : Rat := sm (fun i => cf a i * cf b (k - i)) (k + 1)
def pmul (a b : List Rat) : List Rat := tab (a.length + b.length - 1) (pc a b)
theorem pc_zero {a b : List Rat} {k : Nat} (h : a.length + b.length ≤ k + 1) : pc a b k = 0 := by
  unfold pc
  refine sm_zero fun i hi => ?_
  by_cases h1 : i < a.length
  · rw [cf_ge (show b.length ≤ k - i by omega), Rat.mul_zero]
  · rw [cf_ge (show a.length ≤ i by omega), Rat.zero_mul]
theorem cf_pmul (a b : List Rat) (k : Nat) : cf (pmul a b) k = pc a b k := by
  unfold pmul
  rw [cf_tab]
  split
  · rfl
  · rw [pc_zero (by omega)]
end Vf

set_option maxRecDepth 100000
set_option maxHeartbeats 4000000
/-! rules: lcm; + - * of an object of a class with anything -/
namespace PySem.W
open PySem PySem.Spec PyProof.Rows
section
variable {prog : Program} {w : World} {A : Around} {E : Value → Shared → Prop} {s : Shared} {K : Frag} {x C L f g : Addr} {h₀ : Heap} {m : Str → Option Value} {ox : Obj} {od : Option Obj}
/-- whether a built-in type has a slot for the operator -/
def slotB (r1 r2 : Option Value) : Bool := (r1.isSome && !isSeqSlot r1) || (r2.isSome && !isSeqSlot r2)
theorem fills_type {M : Model} {h : Heap} {nm t : String} {r1 r2 : Option Value} (X : K.In h) (h1 : findIn K (.type t) (PySem.dunder nm) = some r1) (h2 : findIn K (.type t) (PySem.dunderR nm) = some r2) : Looks M h (fillsNumberSlot (.type t) nm) (slotB r1 r2) := by
  intro A Q E s k q
  unfold fillsNumberSlot
  refine wpAny_bind (looks_findIn X h1 A _ E s k ?_)
  refine wpAny_bind (looks_findIn X h2 A _ E s k ?_)
  exact wpAny_pure q
theorem own_slot {M : Model} {h : Heap} {nm : String} (X : K.In h) (hs : findIn K (.ref C) (PySem.dunder nm) = some (some (.ref f))) (hR : findIn K (.ref C) (PySem.dunderR nm) = some (some (.ref g))) : Looks M h (numberSlotInPython (.ref C) nm) true := by
  intro A Q E s k q
  unfold numberSlotInPython
  refine wpAny_bind (looks_findIn X hs A _ E s k ?_)
  refine wpAny_bind (wpAny_pure ?_)
  refine wpAny_bind (looks_findIn X hR A _ E s k ?_)
  refine wpAny_bind (wpAny_pure ?_)
  exact wpAny_pure q
theorem type_slot {M : Model} {h : Heap} {nm t : String} : Looks M h (numberSlotInPython (.type t) nm) false := by
  intro A Q E s k q
  unfold numberSlotInPython
  exact wpAny_pure q
/-- left an object of the class at C, right of a built-in type -/
theorem binop_left {op : Operator} {b : Value} {t : String} {r1 r2 : Option Value} {Q : Value → Shared → Prop} (F : Fr h₀ L s.heap m) (X₀ : K.In h₀) (I : InstAt s.heap x ox C od) (hb : Looks (model prog w) s.heap (typeOf b) (.type t)) (hc : selfFirst K C = true)
    (hs : findIn K (.ref C) (PySem.dunder op.info.2) = some (some (.ref f))) (hf : isFn K (.ref f) = true) (hR : findIn K (.ref C) (PySem.dunderR op.info.2) = some (some (.ref g)))
    (h1 : findIn K (.type t) (PySem.dunder op.info.2) = some r1) (h2 : findIn K (.type t) (PySem.dunderR op.info.2) = some r2) (sub : subIn K (.type t) (.ref C) = some false)
    (h : wpAny (model prog w) A (call (.ref f) [.ref x, b]) (CmpBack Q) E s) : wpAny (model prog w) A (binaryOp op (.ref x) b) Q E s := by
  have X := X₀.keeps F.keep
  obtain ⟨cd, hcd, hm⟩ := any_some hc
  obtain ⟨rest, hm⟩ : ∃ rest, cd.mro = .ref C :: rest := by
    cases q : cd.mro with
    | nil => rw [q] at hm; cases hm
    | cons a r => rw [q] at hm; exact ⟨r, by rw [List.head?_cons] at hm; cases (beq_iff_eq.mp hm); rfl⟩
  unfold binaryOp
  refine wpAny_holding (wpAny_bind ?_)
  unfold binaryOp1
  refine wpAny_bind (I.type.here (wpAny_bind (hb.here (wpAny_bind ((fills_K X hcd hm hs).here ?_)))))
  have ne : (Value.ref C == Value.type t) = false := by rfl
  simp only [ne, if_neg Bool.false_ne_true]
  refine wpAny_bind ((fills_type X h1 h2).here ?_)
  have fin : wpAny (model prog w) A (tryMethod (.ref x) (PySem.dunder op.info.2) b) (fun r s' => ∃ v, r = some v ∧ Q v s') E s := by
    unfold tryMethod
    refine wpAny_bind (special_fn X I hs (beq_iff_eq.mp hf) (wpAny_mono h (fun v s' hv => ?_) fun _ _ e => e))
    cases v <;> first | exact hv.elim | exact wpAny_pure ⟨_, rfl, hv⟩
  cases hsl : slotB r1 r2 with
  | false =>
    simp only [Bool.and_false, Bool.false_eq_true, if_false, Bool.false_and]
    refine wpAny_bind (wpAny_pure ?_)
    simp only [Bool.false_eq_true, if_false]
    refine wpAny_bind (wpAny_mono fin (fun r s' z => ?_) fun _ _ e => e)
    obtain ⟨v, rfl, q⟩ := z
    exact wpAny_pure (wpAny_pure q)
  | true =>
    simp only [Bool.and_self, if_true]
    refine wpAny_bind ((looks_subIn X sub).here ?_)
    simp only [Bool.false_eq_true, if_false, Bool.not_false, Bool.and_self, if_true]
    refine wpAny_bind ((own_slot X hs hR).here ?_)
    simp only [if_true]
    refine wpAny_bind ((type_slot).here ?_)
    simp only [Bool.not_false, if_true]
    refine wpAny_bind ((looks_findIn X h2).here ?_)
    refine wpAny_bind (wpAny_mono fin (fun r s' z => ?_) fun _ _ e => e)
    obtain ⟨v, rfl, q⟩ := z
    exact wpAny_pure (wpAny_pure q)
/-- left of a built-in type without such a slot, right an object of the class at C -/
theorem binop_right {op : Operator} {a : Value} {t : String} {r1 r2 : Option Value} {Q : Value → Shared → Prop} (F : Fr h₀ L s.heap m) (X₀ : K.In h₀) (I : InstAt s.heap x ox C od) (ha : Looks (model prog w) s.heap (typeOf a) (.type t)) (hc : selfFirst K C = true)
    (hs : findIn K (.ref C) (PySem.dunder op.info.2) = some (some (.ref f))) (hR : findIn K (.ref C) (PySem.dunderR op.info.2) = some (some (.ref g))) (hg : isFn K (.ref g) = true)
    (h1 : findIn K (.type t) (PySem.dunder op.info.2) = some r1) (h2 : findIn K (.type t) (PySem.dunderR op.info.2) = some r2) (sub : subIn K (.ref C) (.type t) = some false)
    (hl : slotB r1 r2 = true → ∀ (Q : Option Value → Shared → Prop), Q none s → wpAny (model prog w) A (tryMethod a (PySem.dunder op.info.2) (.ref x)) Q E s)
    (h : wpAny (model prog w) A (call (.ref g) [.ref x, a]) (CmpBack Q) E s) : wpAny (model prog w) A (binaryOp op a (.ref x)) Q E s := by
  have X := X₀.keeps F.keep
  obtain ⟨cd, hcd, hm⟩ := any_some hc
  obtain ⟨rest, hm⟩ : ∃ rest, cd.mro = .ref C :: rest := by
    cases q : cd.mro with
    | nil => rw [q] at hm; cases hm
    | cons a r => rw [q] at hm; exact ⟨r, by rw [List.head?_cons] at hm; cases (beq_iff_eq.mp hm); rfl⟩
  have fin : wpAny (model prog w) A (tryMethod (.ref x) (PySem.dunderR op.info.2) a) (fun r s' => ∃ v, r = some v ∧ Q v s') E s := by
    unfold tryMethod
    refine wpAny_bind (special_fn X I hR (beq_iff_eq.mp hg) (wpAny_mono h (fun v s' hv => ?_) fun _ _ e => e))
    cases v <;> first | exact hv.elim | exact wpAny_pure ⟨_, rfl, hv⟩
  unfold binaryOp
  refine wpAny_holding (wpAny_bind ?_)
  unfold binaryOp1
  refine wpAny_bind (ha.here (wpAny_bind (I.type.here (wpAny_bind ((fills_type X h1 h2).here ?_)))))
  have ne : (Value.type t == Value.ref C) = false := by rfl
  simp only [ne, if_neg Bool.false_ne_true]
  refine wpAny_bind ((fills_K X hcd hm hs).here ?_)
  cases hsl : slotB r1 r2 with
  | false =>
    simp only [Bool.and_false, Bool.false_eq_true, if_false, Bool.false_and]
    refine wpAny_bind (wpAny_pure ?_)
    simp only [Bool.false_eq_true, if_false, Bool.not_false, Bool.and_self, if_true]
    refine wpAny_bind (wpAny_mono fin (fun r s' z => ?_) fun _ _ e => e)
    obtain ⟨v, rfl, q⟩ := z
    first
      | exact wpAny_bind (wpAny_rule (wpAny_pure (wpAny_pure q)))
      | exact wpAny_rule (wpAny_pure (wpAny_pure q))
  | true =>
    simp only [Bool.and_self, if_true]
    refine wpAny_bind ((looks_subIn X sub).here ?_)
    simp only [Bool.false_eq_true, if_false, Bool.not_false, Bool.and_self, if_true]
    refine wpAny_bind ((type_slot).here ?_)
    simp only [Bool.false_eq_true, if_false]
    refine wpAny_bind (hl hsl _ ?_)
    refine wpAny_bind (wpAny_mono fin (fun r s' z => ?_) fun _ _ e => e)
    obtain ⟨v, rfl, q⟩ := z
    first
      | exact wpAny_bind (wpAny_rule (wpAny_pure (wpAny_pure q)))
      | exact wpAny_rule (wpAny_pure (wpAny_pure q))
/-- - of an object of the class at C -/
theorem neg_own {Q : Value → Shared → Prop} (F : Fr h₀ L s.heap m) (X₀ : K.In h₀) (I : InstAt s.heap x ox C od) (hs : findIn K (.ref C) "__neg__" = some (some (.ref f))) (hf : isFn K (.ref f) = true)
    (h : wpAny (model prog w) A (call (.ref f) [.ref x]) Q E s) : wpAny (model prog w) A (unaryOp .USub (.ref x)) Q E s := by
  have X := X₀.keeps F.keep
  unfold unaryOp
  refine wpAny_holding ?_
  refine wpAny_ite_false (by rfl) ?_
  refine wpAny_bind (special_fn X I hs (beq_iff_eq.mp hf) (wpAny_mono h (fun v s' hv => ?_) fun _ _ e => e))
  exact wpAny_pure hv
end
end PySem.W

set_option maxRecDepth 100000
set_option maxHeartbeats 4000000
namespace PySem.W
open PySem PySem.Spec PyProof.Rows
section
variable {prog : Program} {w : World} {A : Around} {E : Value → Shared → Prop} {s : Shared} {x C dx : Addr} {i : Int} {t : Tok}
theorem intBinary_none {name : String} {f : Int → Int → Sem Fin} {R : Fin → Shared → Prop} (hs : slotArgs name 1 ⟨[.int i t, .ref x], []⟩ = pure (Value.int i t, [Value.ref x])) (hx : s.heap.get? x = some (instObj C dx)) (h : R (.done (.ret .notImplemented)) s) :
    wpAny (model prog w) A (Builtin.Int.intBinary name f false ⟨[.int i t, .ref x], []⟩) R E s := by
  unfold Builtin.Int.intBinary
  refine wpAny_bind (wpAny_of_eq hs ?_)
  refine wpAny_bind (wpAny_of_eq (a := i) rfl ?_)
  show wpAny (model prog w) A (asInt? (.ref x) >>= _) _ _ _
  unfold asInt?
  refine wpAny_bind (wpAny_bind (wpAny_load hx (wpAny_pure ?_)))
  first
    | exact wpAny_bind (wpAny_rule (wpAny_pure h))
    | exact wpAny_rule (wpAny_pure h)
theorem int_none {nm : Str} {id : String} {Q : Option Value → Shared → Prop} (sl : Slot "int" nm id) (y : wpAny (model prog w) A (call (.builtin id) [.int i t, .ref x]) (fun v s' => v = .notImplemented ∧ Q none s') E s) : wpAny (model prog w) A (tryMethod (.int i t) nm (.ref x)) Q E s := by
  have ty : s.TypeIs (.int i t) "int" := typeIs_int _ _ _
  unfold tryMethod
  refine wpAny_bind ?_
  refine wpAny_mono (wpAny_callSpecial?_slot (Q := fun v s' => v = some .notImplemented ∧ Q none s') ty sl (wpAny_mono y (fun v s' z => ?_) fun _ _ e => e)) (fun v s' z => ?_) fun _ _ e => e
  · obtain ⟨rfl, q⟩ := z
    exact ⟨rfl, q⟩
  · obtain ⟨rfl, q⟩ := z
    exact wpAny_pure q
theorem int_add_none {Q : Option Value → Shared → Prop} (hx : s.heap.get? x = some (instObj C dx)) (h : Q none s) : wpAny (model prog w) A (tryMethod (.int i t) (PySem.dunder "add") (.ref x)) Q E s := by
  have ha : argsOk "int.__add__" ⟨[.int i t, .ref x], []⟩ := PySem.F.args_int_add_2 _ _
  have ty : s.TypeIs (.int i t) "int" := typeIs_int _ _ _
  have y : wpAny (model prog w) A (call (.builtin "int.__add__") [.int i t, .ref x]) (fun v s' => v = .notImplemented ∧ Q none s') E s := by
    refine wpAny_call_entry (b := Builtin.«int.__add__») (T := "int") (name := PySem.dunder "add") (id := "int.__add__") PySem.F.slot_int_add ty PySem.F.entry_int_add ?_ ha
    exact intBinary_none (name := "__add__") (by rfl) hx ⟨_, rfl, rfl, h⟩
  have sl : Slot "int" (PySem.dunder "add") "int.__add__" := PySem.F.slot_int_add
  generalize PySem.dunder "add" = nm at sl ⊢
  exact int_none sl y
theorem int_sub_none {Q : Option Value → Shared → Prop} (hx : s.heap.get? x = some (instObj C dx)) (h : Q none s) : wpAny (model prog w) A (tryMethod (.int i t) (PySem.dunder "sub") (.ref x)) Q E s := by
  have ha : argsOk "int.__sub__" ⟨[.int i t, .ref x], []⟩ := PySem.F.args_int_sub_2 _ _
  have ty : s.TypeIs (.int i t) "int" := typeIs_int _ _ _
  have y : wpAny (model prog w) A (call (.builtin "int.__sub__") [.int i t, .ref x]) (fun v s' => v = .notImplemented ∧ Q none s') E s := by
    refine wpAny_call_entry (b := Builtin.«int.__sub__») (T := "int") (name := PySem.dunder "sub") (id := "int.__sub__") PySem.F.slot_int_sub ty PySem.F.entry_int_sub ?_ ha
    exact intBinary_none (name := "__sub__") (by rfl) hx ⟨_, rfl, rfl, h⟩
  have sl : Slot "int" (PySem.dunder "sub") "int.__sub__" := PySem.F.slot_int_sub
  generalize PySem.dunder "sub" = nm at sl ⊢
  exact int_none sl y
theorem int_mul_none {Q : Option Value → Shared → Prop} (hx : s.heap.get? x = some (instObj C dx)) (h : Q none s) : wpAny (model prog w) A (tryMethod (.int i t) (PySem.dunder "mul") (.ref x)) Q E s := by
  have ha : argsOk "int.__mul__" ⟨[.int i t, .ref x], []⟩ := PySem.F.args_int_mul_2 _ _
  have ty : s.TypeIs (.int i t) "int" := typeIs_int _ _ _
  have y : wpAny (model prog w) A (call (.builtin "int.__mul__") [.int i t, .ref x]) (fun v s' => v = .notImplemented ∧ Q none s') E s := by
    refine wpAny_call_entry (b := Builtin.«int.__mul__») (T := "int") (name := PySem.dunder "mul") (id := "int.__mul__") PySem.F.slot_int_mul ty PySem.F.entry_int_mul ?_ ha
    exact intBinary_none (name := "__mul__") (by rfl) hx ⟨_, rfl, rfl, h⟩
  have sl : Slot "int" (PySem.dunder "mul") "int.__mul__" := PySem.F.slot_int_mul
  generalize PySem.dunder "mul" = nm at sl ⊢
  exact int_none sl y
end
end PySem.W

set_option maxRecDepth 100000
set_option maxHeartbeats 4000000
/-! rules: + - * and the sign, of an object of a class; lcm -/
namespace Vf
open PySem PySem.Spec PyProof.Rows L2
theorem dun_add : PySem.dunder "add" = ("__add__" : Str) := by decide +kernel
theorem dun_sub : PySem.dunder "sub" = ("__sub__" : Str) := by decide +kernel
theorem dun_mul : PySem.dunder "mul" = ("__mul__" : Str) := by decide +kernel
theorem dunR_add : PySem.dunderR "add" = ("__radd__" : Str) := by decide +kernel
theorem dunR_sub : PySem.dunderR "sub" = ("__rsub__" : Str) := by decide +kernel
theorem dunR_mul : PySem.dunderR "mul" = ("__rmul__" : Str) := by decide +kernel
def slotT (t nm : String) : Option Bool := match PySem.fastLookup t (PySem.dunder nm), PySem.fastLookup t (PySem.dunderR nm) with
  | some a, some b => some (PySem.W.slotB a b)
  | _, _ => none
theorem slotT_ok {K : PySem.W.Frag} {t nm : String} {b : Bool} (h : slotT t nm = some b) : ∃ r1 r2, PySem.W.findIn K (.type t) (PySem.dunder nm) = some r1 ∧ PySem.W.findIn K (.type t) (PySem.dunderR nm) = some r2 ∧ PySem.W.slotB r1 r2 = b := by
  unfold slotT at h
  split at h
  · rename_i a c e1 e2
    cases h
    exact ⟨a, c, e1, e2, rfl⟩
  · cases h
theorem slot_tup_add : slotT "tuple" "add" = some false := by decide +kernel
theorem slot_tup_sub : slotT "tuple" "sub" = some false := by decide +kernel
theorem slot_tup_mul : slotT "tuple" "mul" = some false := by decide +kernel
theorem slot_int_add : slotT "int" "add" = some true := by decide +kernel
theorem slot_int_sub : slotT "int" "sub" = some true := by decide +kernel
theorem slot_int_mul : slotT "int" "mul" = some true := by decide +kernel
section
variable {X : Cx} {CX : CXT} {C f g : Addr} {k : Nat} {fd : FuncData} {ps : List Str} {sp : Sp} {E : XK}
/-- the callee's answer is no mark of a missing operator -/
theorem back {pins : List (Addr × Obj)} {σ : L2.St} {Q : VK} {z : Value} {s' : Shared} (h : EP X pins σ Q z s') : PySem.W.CmpBack (EP X pins σ Q) z s' := by
  obtain ⟨z', H', I', rz, qz⟩ := h
  exact SlX.cmpback rz ⟨z', H', I', rz, qz⟩
def rOwnS (C : Addr) (sp : Sp) (E : XK) : R2 := fun x y H Q => ∃ a dx fs b dy gs, x = .ref a ∧ y = .ref b ∧ H a = some (.ins C dx fs) ∧ H b = some (.ins C dy gs) ∧ sp [x, y] H Q E
theorem op_ownS {op : Operator} (hs : PySem.W.findIn X.K (.ref C) (PySem.dunder op.info.2) = some (some (.ref g))) (hf : PySem.W.isFn X.K (.ref g) = true) (sf : PySem.W.selfFirst X.K C = true)
    (F : FnOk X.prog X.w X.K X.mg X.base CX k g fd ps sp) (hb : Binds X.K fd ps []) (hr : Room k X.A) (hx : Passes CX X E) : OpR X (binaryOp op) (rOwnS C sp E) := by
  intro pins s σ H x y v u Q I rx ry h
  obtain ⟨a, dx, fs, b, dy, gs, rfl, rfl, ha, hb', q⟩ := h
  cases (show v = Value.ref a from rx)
  cases (show u = Value.ref b from ry)
  obtain ⟨mA, O, _⟩ := ins_get I.hok ha
  obtain ⟨od, J, _⟩ := O.look
  obtain ⟨mB, O2, _⟩ := ins_get I.hok hb'
  obtain ⟨od2, J2, _⟩ := O2.look
  obtain ⟨m, hF⟩ := I.fr
  have hsp : sp ([V.ref a, V.ref b] ++ []) H Q E := q
  exact PySem.W.binop_K hF I.ok.mod.kin J J2.type sf hs hf (wpAny_mono (run_fn (us := [.ref a, .ref b]) (vs := [.ref a, .ref b]) F hr hb .nil hx I (.cons rfl (.cons rfl .nil)) hsp) (fun w s' z => back z) fun _ _ x => x)
def rOwnL (K : PySem.W.Frag) (C : Addr) (t : String) (sp : Sp) (E : XK) : R2 := fun x y H Q => ∃ a dx fs, x = .ref a ∧ H a = some (.ins C dx fs) ∧ TyX K H y (.type t) ∧ sp [x, y] H Q E
theorem op_ownL {op : Operator} {t : String} {rb : Bool} (hs : PySem.W.findIn X.K (.ref C) (PySem.dunder op.info.2) = some (some (.ref g))) (hf : PySem.W.isFn X.K (.ref g) = true) (sf : PySem.W.selfFirst X.K C = true)
    (hR : PySem.W.findIn X.K (.ref C) (PySem.dunderR op.info.2) = some (some (.ref f))) (st : slotT t op.info.2 = some rb) (sub : PySem.W.subIn X.K (.type t) (.ref C) = some false)
    (F : FnOk X.prog X.w X.K X.mg X.base CX k g fd ps sp) (hb : Binds X.K fd ps []) (hr : Room k X.A) (hx : Passes CX X E) : OpR X (binaryOp op) (rOwnL X.K C t sp E) := by
  intro pins s σ H x y v u Q I rx ry h
  obtain ⟨a, dx, fs, rfl, ha, ty, q⟩ := h
  cases (show v = Value.ref a from rx)
  obtain ⟨mA, O, _⟩ := ins_get I.hok ha
  obtain ⟨od, J, _⟩ := O.look
  obtain ⟨P, Z, p, _⟩ := kit_of I ry ty
  obtain ⟨m, hF⟩ := I.fr
  obtain ⟨r1, r2, h1, h2, _⟩ := slotT_ok (K := X.K) st
  have hsp : sp ([V.ref a, y] ++ []) H Q E := q
  exact PySem.W.binop_left hF I.ok.mod.kin J (Z.ty _ _ I.kIn p) sf hs hf hR h1 h2 sub (wpAny_mono (run_fn (us := [.ref a, u]) (vs := [.ref a, y]) F hr hb .nil hx I (.cons rfl (.cons ry .nil)) hsp) (fun w s' z => back z) fun _ _ x => x)
def rOwnR (K : PySem.W.Frag) (C : Addr) (t : String) (sp : Sp) (E : XK) : R2 := fun x y H Q => ∃ a dx fs, y = .ref a ∧ H a = some (.ins C dx fs) ∧ TyX K H x (.type t) ∧ sp [y, x] H Q E
/-- what the left side's own slot says of an object: nothing -/
def LeftNone (t : String) (op : Operator) : Prop := ∀ {prog : Program} {w : World} {A : Around} {E : Value → Shared → Prop} {s : Shared} {x : Addr} {C dx : Addr} {H : Hp} {K : PySem.W.Frag} {y : V} {v : Value}, TyX K H y (.type t) → RelV y v → s.heap.get? x = some (PySem.W.instObj C dx) → ∀ (Q : Option Value → Shared → Prop), Q none s → wpAny (model prog w) A (tryMethod v (PySem.dunder op.info.2) (.ref x)) Q E s
theorem op_ownR {op : Operator} {t : String} {rb : Bool} (hs : PySem.W.findIn X.K (.ref C) (PySem.dunder op.info.2) = some (some (.ref f))) (sf : PySem.W.selfFirst X.K C = true)
    (hR : PySem.W.findIn X.K (.ref C) (PySem.dunderR op.info.2) = some (some (.ref g))) (hg : PySem.W.isFn X.K (.ref g) = true) (st : slotT t op.info.2 = some rb) (sub : PySem.W.subIn X.K (.ref C) (.type t) = some false) (ln : rb = true → LeftNone t op)
    (F : FnOk X.prog X.w X.K X.mg X.base CX k g fd ps sp) (hb : Binds X.K fd ps []) (hr : Room k X.A) (hx : Passes CX X E) : OpR X (binaryOp op) (rOwnR X.K C t sp E) := by
  intro pins s σ H x y v u Q I rx ry h
  obtain ⟨a, dx, fs, rfl, ha, ty, q⟩ := h
  cases (show u = Value.ref a from ry)
  obtain ⟨mA, O, _⟩ := ins_get I.hok ha
  obtain ⟨od, J, _⟩ := O.look
  obtain ⟨_, _, _, ob, _⟩ := (show ObjOk X.prog X.w H s.heap a (.ins C dx fs) from I.hok a _ ha)
  obtain ⟨P, Z, p, _⟩ := kit_of I rx ty
  obtain ⟨m, hF⟩ := I.fr
  obtain ⟨r1, r2, h1, h2, e⟩ := slotT_ok (K := X.K) st
  have hsp : sp ([V.ref a, x] ++ []) H Q E := q
  exact PySem.W.binop_right hF I.ok.mod.kin J (Z.ty _ _ I.kIn p) sf hs hR hg h1 h2 sub (fun z Q' q' => ln (e.symm.trans z) ty rx ob Q' q')
    (wpAny_mono (run_fn (us := [.ref a, v]) (vs := [.ref a, x]) F hr hb .nil hx I (.cons rfl (.cons rx .nil)) hsp) (fun w s' z => back z) fun _ _ x => x)
theorem left_int {op : Operator} (h : op = .Add ∨ op = .Sub ∨ op = .Mult) : LeftNone "int" op := by
  intro prog w A E s x C dx H K y v ty rv hx Q q
  have key : ∀ {T : Value}, TyX K H y T → T = .type "int" → ∃ i, y = V.int i := fun {T} ty e => by
    cases ty with
    | base b =>
      cases b with
      | int i => exact ⟨i, rfl⟩
      | ins _ _ _ _ _ _ => cases e
      | _ => exact absurd (Value.type.inj e) (by decide)
    | _ => exact absurd (Value.type.inj e) (by decide)
  obtain ⟨i, rfl⟩ := key ty rfl
  obtain ⟨t, rfl⟩ := (show ∃ t, v = Value.int i t from rv)
  rcases h with rfl | rfl | rfl
  · exact PySem.W.int_add_none hx q
  · exact PySem.W.int_sub_none hx q
  · exact PySem.W.int_mul_none hx q
def rNegO (C : Addr) (sp : Sp) (E : XK) : V → Hp → VK → Prop := fun x H Q => ∃ a dx fs, x = .ref a ∧ H a = some (.ins C dx fs) ∧ sp [x] H Q E
theorem un_negO (hs : PySem.W.findIn X.K (.ref C) "__neg__" = some (some (.ref g))) (hf : PySem.W.isFn X.K (.ref g) = true) (F : FnOk X.prog X.w X.K X.mg X.base CX k g fd ps sp) (hb : Binds X.K fd ps []) (hr : Room k X.A) (hx : Passes CX X E) : UnR X (unaryOp .USub) (rNegO C sp E) := by
  intro pins s σ H x v Q I rx h
  obtain ⟨a, dx, fs, rfl, ha, q⟩ := h
  cases (show v = Value.ref a from rx)
  obtain ⟨mA, O, _⟩ := ins_get I.hok ha
  obtain ⟨od, J, _⟩ := O.look
  obtain ⟨m, hF⟩ := I.fr
  have hsp : sp ([V.ref a] ++ []) H Q E := q
  exact PySem.W.neg_own hF I.ok.mod.kin J hs hf (run_fn (us := [.ref a]) (vs := [.ref a]) F hr hb .nil hx I (.cons rfl .nil) hsp)
/-- math.lcm of two whole numbers -/
def rLcm : List V → Hp → VK → Prop := fun vs H Q => ∃ a b : Int, vs = [.int a, .int b] ∧ a.natAbs < 2 ^ 4000 ∧ b.natAbs < 2 ^ 4000 ∧ Q (.int ((Nat.lcm a.natAbs b.natAbs : Nat) : Int)) H
theorem log_4000 {n : Nat} (h : n < 2 ^ 4000) : n.log2 < 4000 := by
  by_cases e : n = 0
  · rw [e]; decide
  · exact (Nat.log2_lt e).mpr h
theorem cr_lcm : CallR X (.builtin "math.lcm") rLcm := by
  intro pins s σ H vs us Q I r h
  obtain ⟨a, b, rfl, ha, hb, q⟩ := h
  obtain ⟨t, u, rfl⟩ := Vals.int2 r
  have one : Nat.lcm 1 a.natAbs = a.natAbs := Nat.lcm_one_left _
  have m1 : max 1 a.natAbs < 2 ^ 4000 := by
    have : (1 : Nat) < 2 ^ 4000 := Nat.one_lt_pow (by decide) (by decide)
    omega
  have m2 : max a.natAbs b.natAbs < 2 ^ 4000 := by omega
  have l1 := log_4000 m1
  have l2 := log_4000 m2
  have sz : ((((Nat.lcm 1 a.natAbs).lcm b.natAbs : Nat) : Int)).natAbs.log2 < bitsLine := by
    rw [one, Int.natAbs_natCast]
    have le : a.natAbs.lcm b.natAbs ≤ a.natAbs * b.natAbs := by
      rw [← Nat.gcd_mul_lcm]
      by_cases z : a.natAbs.gcd b.natAbs = 0
      · have : a.natAbs.lcm b.natAbs = 0 := by unfold Nat.lcm; rw [Nat.gcd_eq_zero_iff.mp z |>.1]; simp
        rw [this]; omega
      · exact Nat.le_mul_of_pos_left _ (by omega)
    have lt : a.natAbs.lcm b.natAbs < 2 ^ 8000 := by
      refine Nat.lt_of_le_of_lt le ?_
      rw [show (8000 : Nat) = 4000 + 4000 from rfl, Nat.pow_add]
      exact Nat.mul_lt_mul'' ha hb
    by_cases e : a.natAbs.lcm b.natAbs = 0
    · rw [e]; decide
    · exact Nat.lt_trans ((Nat.log2_lt e).mpr lt) (by decide)
  refine PySem.call_function_meets PySem.W.MGF.kind_lcm PySem.W.MGF.plain_lcm PySem.W.MGF.entry_lcm (PySem.W.MGF.args_lcm _ _) (PySem.W.mg_run_lcm a t b u (by omega) (by omega) sz).meets ?_
  rw [one]
  exact ⟨.int _, H, I.tok _, ⟨_, rfl⟩, q⟩
end
end Vf

set_option maxRecDepth 100000
set_option maxHeartbeats 4000000
/-! comprehensions over zip and ranges; rows of numbers at their addresses -/
namespace Vf
open PySem PySem.Spec PyProof.Rows L2
/-- a comprehension over zip(a, b), two lists alike in length -/
theorem lc_zipL {K : PySem.W.Frag} {a b : Addr} {xs ys : List V} {g : TG} {tt : TT} {te : TE} {vs : List Nat} {σ : L2.St} {H1 : Hp} {D : Addr} {Qd : Hp → Prop} (hl : xs.length = ys.length) (Pv : Nat → Hp → Prop) (h0 : Pv 0 (upd H1 D (.lst [])))
    (hq : ∀ i H, Pv i H → SqL K H a xs ∧ SqL K H b ys)
    (hs : ∀ (i : Nat) (x y : V) (T : Addr) (H : Hp), xs[i]? = some x → ys[i]? = some y → Pv i H → H T = none → g (.ref T) (wipe σ vs) (upd H T (.tup [x, y])) fun σ2 H2 => wipe σ2 vs = wipe σ vs ∧ tt σ2 H2 fun b H3 =>
      if b = true then te σ2 H3 fun y H4 => ∃ acc, H4 D = some (.lst acc) ∧ acc.length < sizeLine ∧ Pv (i + 1) (upd H4 D (.lst (acc ++ [y]))) else Pv (i + 1) H3) (hd : ∀ H, Pv xs.length H → Qd H) :
    ∃ W : Nat → Nat → Hp → Prop, (∃ m, W 0 m (upd H1 D (.lst []))) ∧ ∀ i m H, W i m H →
      (((Itz K a b).stop i H ∧ Qd H) ∨ ((Itz K a b).go i H ∧ ∃ Nx : Hp → Prop, (∀ H', Nx H' → ∃ m', m' < m ∧ W (i + 1) m' H') ∧ ∀ x H', (Itz K a b).yld i H x H' → g x (wipe σ vs) H' fun σ2 H2 => wipe σ2 vs = wipe σ vs ∧ tt σ2 H2 fun b H3 =>
        if b = true then te σ2 H3 fun y H4 => ∃ acc, H4 D = some (.lst acc) ∧ acc.length < sizeLine ∧ Nx (upd H4 D (.lst (acc ++ [y]))) else Nx H3)) := by
  refine ⟨fun i m H => m = xs.length - i ∧ i ≤ xs.length ∧ Pv i H, ⟨xs.length, by simp, Nat.zero_le _, h0⟩, ?_⟩
  rintro i m H ⟨rfl, hi, p⟩
  obtain ⟨qx, qy⟩ := hq i H p
  by_cases hlt : i < xs.length
  · have hx : xs[i]? = some xs[i] := List.getElem?_eq_getElem hlt
    have hlt2 : i < ys.length := by omega
    have hy : ys[i]? = some ys[i] := List.getElem?_eq_getElem hlt2
    refine .inr ⟨⟨xs, ys, xs[i], ys[i], qx, qy, hx, hy⟩, Pv (i + 1), fun H' p' => ⟨xs.length - (i + 1), by omega, rfl, hlt, p'⟩, fun v H' y => ?_⟩
    obtain ⟨T, x', y', e1, n, e2, h1, h2⟩ := y
    rw [e1, e2]
    exact hs i x' y' T H (h1 xs qx) (h2 ys qy) p n
  · have e : i = xs.length := by omega
    subst e
    exact .inl ⟨⟨xs, ys, qx, qy, .inl (Nat.le_refl _)⟩, hd H p⟩
/-- a tuple that tells the number q -/
def TR (H : Hp) (r : Addr) (q : Rat) : Prop := H r = some (.tup [.int q.num, .int (q.den : Int)])
theorem TR.pq {H : Hp} {r : Addr} {q : Rat} (h : TR H r q) : H r = some (.tup [.int (pq q).1, .int (pq q).2]) := h
theorem TR.same {H H' : Hp} {r : Addr} {q : Rat} (h : TR H r q) (s : Same H H') : TR H' r q := s _ _ h
/-- a list of such tuples -/
def RL (H : Hp) (l : Addr) (qs : List Rat) : Prop := ∃ as, H l = some (.lst (as.map V.ref)) ∧ Tups H as (qs.map pq)
theorem RL.same {H H' : Hp} {l : Addr} {qs : List Rat} (h : RL H l qs) (s : Same H H') : RL H' l qs := by
  obtain ⟨as, e, t⟩ := h
  exact ⟨as, s _ _ e, t.same s⟩
theorem Tups.atQ {H : Hp} {as : List Addr} {qs : List Rat} {i : Nat} {a : Addr} (h : Tups H as (qs.map pq)) (e : as[i]? = some a) : ∃ q, qs[i]? = some q ∧ TR H a q := by
  obtain ⟨p, h1, h2⟩ := h.at e
  rw [List.getElem?_map] at h1
  cases hq : qs[i]? with
  | none => rw [hq] at h1; cases h1
  | some q =>
    rw [hq] at h1
    cases h1
    exact ⟨q, rfl, h2⟩
theorem Tups.lenQ {H : Hp} {as : List Addr} {qs : List Rat} (h : Tups H as (qs.map pq)) : as.length = qs.length := by
  have := h.len
  rw [List.length_map] at this
  exact this
theorem Tups.snocQ {H : Hp} {as : List Addr} {qs : List Rat} {a : Addr} {q : Rat} (h : Tups H as (qs.map pq)) (e : TR H a q) : Tups H (as ++ [a]) ((qs ++ [q]).map pq) := by
  rw [List.map_append]
  exact h.snoc e
theorem Tups.getQ {H : Hp} {as : List Addr} {qs : List Rat} {i : Nat} (h : Tups H as (qs.map pq)) (hi : i < qs.length) : ∃ a, as[i]? = some a ∧ TR H a (cf qs i) := by
  have hl := h.lenQ
  have hi' : i < as.length := by omega
  obtain ⟨q, h1, h2⟩ := h.atQ (List.getElem?_eq_getElem hi')
  refine ⟨as[i], List.getElem?_eq_getElem hi', ?_⟩
  rw [cf_get h1]
  exact h2
theorem Tups.setQ {H : Hp} : ∀ {as : List Addr} {qs : List Rat} (i : Nat) {a : Addr} {q : Rat}, Tups H as (qs.map pq) → TR H a q → Tups H (as.set i a) ((qs.set i q).map pq)
  | [], [], _, _, _, _, _ => .nil
  | _ :: _, _ :: _, 0, _, _, .cons _ t, e => .cons e t
  | _ :: _, _ :: _, i + 1, _, _, .cons h t, e => .cons h (t.setQ i e)
theorem tr_zero {H : Hp} {r : Addr} (h : H r = some (.tup [.int 0, .int 1])) : TR H r 0 := h
theorem tups_rep0 {H : Hp} {a : Addr} (h : TR H a 0) (n : Nat) : Tups H (List.replicate n a) ((List.replicate n (0 : Rat)).map pq) := by
  rw [List.map_replicate]
  exact Tups.rep' (p := pq 0) h n
where
  Tups.rep' {H : Hp} {a : Addr} {p : Int × Int} (h : H a = some (.tup [.int p.1, .int p.2])) : ∀ n : Nat, Tups H (List.replicate n a) (List.replicate n p)
    | 0 => .nil
    | n + 1 => .cons h (Tups.rep' h n)
theorem flat_repQ (n : Nat) (a : Addr) : (List.replicate n [V.ref a]).flatten = (List.replicate n a).map V.ref := by
  rw [List.flatten_replicate_singleton, List.map_replicate]
theorem cf_rep0 (n i : Nat) : cf (List.replicate n 0) i = 0 := by
  unfold cf
  rw [List.getD_eq_getElem?_getD, List.getElem?_replicate]
  split <;> rfl
theorem cf_set {l : List Rat} {i j : Nat} {x : Rat} (h : i < l.length) : cf (l.set i x) j = if j = i then x else cf l j := by
  unfold cf
  rw [List.getD_eq_getElem?_getD, List.getD_eq_getElem?_getD, List.getElem?_set]
  by_cases e : i = j
  · rw [if_pos e, if_pos e.symm, if_pos h]
    rfl
  · rw [if_neg e, if_neg (fun z => e z.symm)]
theorem big_mulW {x y : Int} (h1 : x.natAbs < 2 ^ 3900) (h2 : y.natAbs < 2 ^ 3900) : CMulW x y := wide_mul h1 h2 (by decide) (by decide) (by decide)
theorem Sr.n {q : Rat} (h : Sr q) : q.num.natAbs < 2 ^ 3900 := Nat.lt_trans h.1 (Nat.pow_lt_pow_right (by decide) (by decide))
theorem Sr.d {q : Rat} (h : Sr q) : ((q.den : Int)).natAbs < 2 ^ 3900 := by
  rw [Int.natAbs_natCast]
  exact Nat.lt_trans h.2 (Nat.pow_lt_pow_right (by decide) (by decide))
theorem pow_add2 (a b : Nat) : (2 : Nat) ^ a * 2 ^ b = 2 ^ (a + b) := (Nat.pow_add _ _ _).symm
theorem sr_sum {a b : Rat} (ha : Sr a) (hb : Sr b) : (a.num * b.den + b.num * a.den).natAbs < 2 ^ 4000 ∧ ((a.den : Int) * b.den).natAbs < 2 ^ 4000 ∧ (a.num * b.num).natAbs < 2 ^ 4000 := by
  have m : ∀ {x y : Nat}, x < 2 ^ 1900 → y < 2 ^ 1900 → x * y < 2 ^ 3800 := fun {x y} h1 h2 => by
    have := Nat.mul_lt_mul'' h1 h2
    rw [pow_add2] at this
    exact this
  have l1 : (2 : Nat) ^ 3800 + 2 ^ 3800 = 2 ^ 3801 := by rw [show (3801 : Nat) = 3800 + 1 from rfl, Nat.pow_succ]; omega
  have l2 : (2 : Nat) ^ 3801 ≤ 2 ^ 4000 := Nat.pow_le_pow_right (by decide) (by decide)
  have l3 : (2 : Nat) ^ 3800 ≤ 2 ^ 4000 := Nat.pow_le_pow_right (by decide) (by decide)
  have m1 := m ha.1 hb.2
  have m2 := m hb.1 ha.2
  have m3 := m ha.2 hb.2
  have m4 := m ha.1 hb.1
  have e1 : (a.num * b.den).natAbs = a.num.natAbs * b.den := by rw [Int.natAbs_mul, Int.natAbs_natCast]
  have e2 : (b.num * a.den).natAbs = b.num.natAbs * a.den := by rw [Int.natAbs_mul, Int.natAbs_natCast]
  refine ⟨?_, ?_, ?_⟩
  · have := Int.natAbs_add_le (a.num * b.den) (b.num * a.den)
    omega
  · rw [Int.natAbs_mul, Int.natAbs_natCast, Int.natAbs_natCast]
    omega
  · rw [Int.natAbs_mul]
    omega
end Vf

set_option maxRecDepth 100000
set_option maxHeartbeats 4000000
/-! a range that stands in a name, walked; rows of whole numbers -/
namespace Vf
open PySem PySem.Spec PyProof.Rows L2
section
variable {X : Cx} {tg : Expr}
def rRng1 : List V → Hp → VK → Prop := fun vs H Q => ∃ j, vs = [V.int j] ∧ ∀ p, H p = none → Q (.ref p) (upd H p (.rng 0 j))
theorem cr_range1 : CallR X (.type "range") rRng1 := by
  intro pins s σ H vs us Q I r h
  obtain ⟨j, rfl, q⟩ := h
  cases r with
  | cons r rr =>
    cases rr
    obtain ⟨t, rfl⟩ := r
    refine call_range_1 ⟨.ref s.heap.objs.size, upd H s.heap.objs.size (.rng 0 j), I.laid (t' := s.toks + 1 + 1) (fun b o e => Heap.get?_push_of_some _ e) (Nat.le_refl _) ?_, rfl, q _ (I.hok.fresh (Nat.le_refl _))⟩
    exact ⟨_, t, _, Heap.get?_push_size _ rfl⟩
def iRngV (te : TE) : TI := fun σ H R => te σ H fun x H1 => ∃ a lo hi, x = .ref a ∧ H1 a = some (.rng lo hi) ∧ (-(2 ^ 62) ≤ lo ∧ lo < 2 ^ 62 ∧ -(2 ^ 62) ≤ hi ∧ hi < 2 ^ 62) ∧ R (Itr lo (hi - lo).toNat) H1
theorem pi_rng {l : Expr} {tl : TE} (hl : PE X l tl) : PI X tg l (iRngV tl) := by
  refine ⟨fun pins s σ H R I h => ?_⟩
  refine thn (hl.run pins s σ H _ I h) fun v s1 ⟨x, H1, I1, r1, q1⟩ => ?_
  obtain ⟨a, lo, hi, rfl, ha, ⟨h1, h2, h3, h4⟩, q⟩ := q1
  cases r1
  obtain ⟨t, u, v, ho⟩ := I1.hok a _ ha
  refine wpAny_pyIter_range (show IsRange s1.heap a lo hi 1 t u v from ho) (small_one h1 h2 h3 h4) ?_
  refine ⟨s1.heap.objs.size, [s1.heap.objs.size], _, _, H1, rfl, I1.kept (t' := s1.toks) fun b o e => Heap.get?_push_of_some _ e, turn_range _ lo (hi - lo).toNat, ?_, fun b hb => ?_, q⟩
  · have e1 : lo + ((0 : Nat) : Int) * 1 = lo := by simp
    have e2 : (((hi - lo).toNat : Nat) : Int) - ((0 : Nat) : Int) = Builtin.Range.rangeSize lo hi 1 := by rw [rangeSize_one]; split <;> omega
    show IsRangeIter _ _ (lo + ((0 : Nat) : Int) * 1) ((((hi - lo).toNat : Nat) : Int) - ((0 : Nat) : Int)) 1
    rw [e1, e2]
    exact Heap.get?_push_size _ rfl
  · have e : b = s1.heap.objs.size := by simpa using hb
    subst e
    exact I1.fpOk (Nat.le_refl _) (I1.hok.fresh (Nat.le_refl _))
end
/-! ### whole numbers over one bottom -/
/-- the row ns tells the numbers qs over M -/
def Over (M : Int) (ns : List Int) (qs : List Rat) : Prop := ns.length = qs.length ∧ ∀ i, ((ns.getD i 0 : Int) : Rat) = cf qs i * (M : Rat)
def ci (ns : List Int) (i : Nat) : Int := ns.getD i 0
theorem Over.at {M : Int} {ns : List Int} {qs : List Rat} (h : Over M ns qs) (i : Nat) : cf qs i * (M : Rat) = ((ci ns i : Int) : Rat) := (h.2 i).symm
theorem ci_lt {l : List Int} {i : Nat} (h : i < l.length) : l[i]? = some (ci l i) := by
  unfold ci
  rw [List.getD_eq_getElem?_getD, List.getElem?_eq_getElem h]
  rfl
theorem ci_get {l : List Int} {i : Nat} {x : Int} (h : l[i]? = some x) : ci l i = x := by
  unfold ci
  rw [List.getD_eq_getElem?_getD, h]
  rfl
theorem ci_ge {l : List Int} {i : Nat} (h : l.length ≤ i) : ci l i = 0 := by
  unfold ci
  rw [List.getD_eq_getElem?_getD, List.getElem?_eq_none_iff.mpr h]
  rfl
def tabI (n : Nat) (f : Nat → Int) : List Int := (List.range n).map f
theorem tabI_len (n : Nat) (f : Nat → Int) : (tabI n f).length = n := by unfold tabI; rw [List.length_map, List.length_range]
theorem tabI_snoc (n : Nat) (f : Nat → Int) : tabI (n + 1) f = tabI n f ++ [f n] := by
  unfold tabI
  rw [List.range_succ, List.map_append]
  rfl
theorem ci_tab (n : Nat) (f : Nat → Int) (i : Nat) : ci (tabI n f) i = if i < n then f i else 0 := by
  unfold ci tabI
  rw [List.getD_eq_getElem?_getD, List.getElem?_map]
  by_cases h : i < n
  · rw [if_pos h, List.getElem?_range h]; rfl
  · rw [if_neg h, List.getElem?_eq_none_iff.mpr (by rw [List.length_range]; omega)]; rfl
def smI (f : Nat → Int) : Nat → Int
  | 0 => 0
  | n + 1 => smI f n + f n
theorem smI_cast (f : Nat → Int) : ∀ n, ((smI f n : Int) : Rat) = sm (fun i => (f i : Rat)) n
  | 0 => rfl
  | n + 1 => by
    show (((smI f n + f n : Int)) : Rat) = sm (fun i => (f i : Rat)) n + (f n : Rat)
    rw [Rat.intCast_add, smI_cast f n]
end Vf

set_option maxRecDepth 100000
set_option maxHeartbeats 4000000
/-! zip and enumerate over lists and tuples alike, in loops and comprehensions -/
namespace Vf
open PySem PySem.Spec PyProof.Rows L2
/-- a list (true) or a tuple (false) of these items -/
def SqB (p : Bool) (K : PySem.W.Frag) (H : Hp) (a : Addr) (xs : List V) : Prop := match p with
  | true => SqL K H a xs
  | false => SqT K H a xs
def ItB (p : Bool) (h : Heap) (it a : Addr) (i : Nat) : Prop := match p with
  | true => h.IsListIter it a i
  | false => h.IsTupleIter it a i
def ArB (p : Bool) (h : Heap) (a : Addr) (items : Array Value) : Prop := match p with
  | true => h.IsList a items
  | false => h.IsTuple a items
theorem sqB_or {K : PySem.W.Frag} {H : Hp} {a : Addr} {xs : List V} (h : SqL K H a xs ∨ SqT K H a xs) : ∃ p, SqB p K H a xs := by
  rcases h with h | h
  · exact ⟨true, h⟩
  · exact ⟨false, h⟩
theorem sqB_to {p : Bool} {K : PySem.W.Frag} {H : Hp} {a : Addr} {xs : List V} (h : SqB p K H a xs) : SqL K H a xs ∨ SqT K H a xs := by
  cases p
  · exact .inr h
  · exact .inl h
theorem SqB.same {p : Bool} {K : PySem.W.Frag} {H H' : Hp} {a : Addr} {xs : List V} (h : SqB p K H a xs) (s : Same H H') : SqB p K H' a xs := by
  cases p
  · exact same_sqT s h
  · exact same_sqL s h
theorem drawsB {prog : Program} {w : World} {A : Around} (p : Bool) (hh : A.handled = none) (it l : Addr) (hne : l ≠ it) (items : Array Value) :
    Draws prog w A it [it, l] items.size (fun i v => items[i]? = some v) (fun i h => ItB p h it l i ∧ ArB p h l items) := by
  cases p
  · exact Draws.tuple hh it l hne items
  · exact Draws.list hh it l hne items
def obB (p : Bool) (a : Addr) : Obj := match p with
  | true => { cls := .type "list_iterator", data := .fields #[.ref a, .int 0 0] }
  | false => { cls := .type "tuple_iterator", data := .fields #[.ref a, .int 0 0] }
theorem beginsB (p : Bool) (a : Addr) (items : Array Value) : Begins (.ref a) (obB p a) fun h => ArB p h a items := by
  cases p
  · exact begins_tuple a items
  · exact begins_list a items
theorem itB_of {p : Bool} {h : Heap} {it a : Addr} (e : h.get? it = some (obB p a)) : ItB p h it a 0 := by
  cases p
  · exact ⟨_, e, rfl, rfl⟩
  · exact ⟨_, e, rfl, rfl⟩
theorem ItB.at {p : Bool} {h h' : Heap} {it a : Addr} {i : Nat} (st : ItB p h it a i) (k : ∀ o, h.get? it = some o → h'.get? it = some o) : ItB p h' it a i := by
  cases p
  · exact Heap.IsTupleIter.at st k
  · exact Heap.IsListIter.at st k
theorem ItB.obj {p : Bool} {h : Heap} {it a : Addr} {i : Nat} (st : ItB p h it a i) : ∃ o, h.get? it = some o ∧ ∀ v, o.data ≠ .cell v := by
  cases p
  · obtain ⟨o, e, _, d⟩ := st
    exact ⟨o, e, fun v z => by rw [d] at z; cases z⟩
  · obtain ⟨o, e, _, d⟩ := st
    exact ⟨o, e, fun v z => by rw [d] at z; cases z⟩
section
variable {X : Cx} {pins : List (Addr × Obj)} {σ : L2.St} {H : Hp} {s : Shared}
theorem seqB (I : Inv X pins σ H s) {p : Bool} {a : Addr} {xs : List V} (h : SqB p X.K H a xs) : ∃ its : List Value, Vals xs its ∧ ArB p s.heap a its.toArray := by
  cases p
  · obtain ⟨its, rv, q, _⟩ := I.tuple h
    exact ⟨its, rv, q⟩
  · obtain ⟨its, rv, q, _⟩ := I.list h
    exact ⟨its, rv, q.isList⟩
theorem seqB_inj (I : Inv X pins σ H s) {p : Bool} {a : Addr} {xs ys : List V} (h1 : SqB p X.K H a xs) (h2 : SqB p X.K H a ys) : xs = ys := by
  cases p
  · exact I.tuple_inj h1 h2
  · exact I.list_inj h1 h2
theorem ArB.lt {p : Bool} {h : Heap} {a : Addr} {its : Array Value} (q : ArB p h a its) : a < h.objs.size := by
  cases p
  · obtain ⟨o, e, _⟩ := q
    exact Heap.lt_size e
  · obtain ⟨o, e, _⟩ := q
    exact Heap.lt_size e
end
/-- the lists or tuples at a and b as they stand at each turn, the items in new pairs -/
def ItzB (p q : Bool) (K : PySem.W.Frag) (a b : Addr) : It :=
  ⟨fun i H => ∃ (xs ys : List V) (x y : V), SqB p K H a xs ∧ SqB q K H b ys ∧ xs[i]? = some x ∧ ys[i]? = some y,
    fun i H v H' => ∃ T x y, v = .ref T ∧ H T = none ∧ H' = upd H T (.tup [x, y]) ∧ (∀ xs, SqB p K H a xs → xs[i]? = some x) ∧ ∀ ys, SqB q K H b ys → ys[i]? = some y,
    fun i H => ∃ xs ys : List V, SqB p K H a xs ∧ SqB q K H b ys ∧ i ≤ xs.length ∧ i ≤ ys.length ∧ (xs.length = i ∨ ys.length = i)⟩
theorem sepB {a b z TI TO i1 i2 : Addr} (D : ZipApart z TI TO i1 i2 a b) : ZipSep2 z TI TO i1 i2 [i1, a] [i2, b] where
  TIz := D.TIz
  TOz := D.TOz
  TITO := D.TITO
  TIi1 := D.TIi1
  mem1 := by simp
  zf1 := by simp [D.i1z.symm, D.l1z.symm]
  Tf1 := by simp [D.TOi1, D.l1TO.symm]
  TIi2 := D.TIi2
  mem2 := by simp
  zf2 := by simp [D.i2z.symm, D.l2z.symm]
  Tf2 := by simp [D.TOi2, D.l2TO.symm]
  sep1_2 := by simp [D.i12, D.l2i1.symm]
  sep2_1 := by simp [D.i12.symm, D.l1i2.symm]
theorem turn_zipB {P : Program} {w : World} {K : PySem.W.Frag} {elts : List Expr} {kk : Nat} {tpos : Pos} (p q : Bool) {a b z TI TO i1 i2 : Addr} (D : ZipApart z TI TO i1 i2 a b) :
    Turn P w K (.Tuple elts kk tpos) (ItzB p q K a b) [z, TI, TO, i1, i2] z (fun i h => IsZip h z TI TO .none ∧ IsPair h TI (.ref i1) (.ref i2) ∧ (∃ x y, IsPair h TO x y) ∧ ItB p h i1 a i ∧ ItB q h i2 b i) where
  mem := by simp
  obj := fun i h st c hc => by
    obtain ⟨hz, hTI, ⟨x, y, hTO⟩, h1, h2⟩ := st
    have e' : c = z ∨ c = TI ∨ c = TO ∨ c = i1 ∨ c = i2 := by simpa using hc
    rcases e' with q | q | q | q | q
    · rw [q]; exact ⟨_, hz, fun v q => nomatch q⟩
    · rw [q]; exact ⟨_, hTI, fun v q => nomatch q⟩
    · rw [q]; exact ⟨_, hTO, fun v q => nomatch q⟩
    · rw [q]; exact h1.obj
    · rw [q]; exact h2.obj
  keep := fun i h h' st k => by
    obtain ⟨hz, hTI, ⟨x, y, hTO⟩, h1, h2⟩ := st
    exact ⟨k z (by simp) _ hz, k TI (by simp) _ hTI, ⟨x, y, k TO (by simp) _ hTO⟩, h1.at fun o q => k i1 (by simp) o q, h2.at fun o q => k i2 (by simp) o q⟩
  item := by
    intro X hP hw hK hc i pins s σ H E I hf st hg
    subst hP hw hK
    obtain ⟨hz, hTI, ⟨x0, y0, hTO⟩, h1, h2⟩ := st
    obtain ⟨xs, ys, x, y, hqx, hqy, hx, hy⟩ := hg
    obtain ⟨its, rv, p1⟩ := seqB I hqx
    obtain ⟨its2, rv2, p2⟩ := seqB I hqy
    obtain ⟨u, hu, ru⟩ := rv.get hx
    obtain ⟨u2, hu2, ru2⟩ := rv2.get hy
    have hzl : z < s.heap.objs.size := Heap.lt_size hz
    have hh : X.A.in1.handled = none := I.ok.hd hc
    have l1 : i < its.toArray.size := by
      have := (List.getElem?_eq_some_iff.mp hu).1
      simpa using this
    have l2 : i < its2.toArray.size := by
      have := (List.getElem?_eq_some_iff.mp hu2).1
      simpa using this
    refine wpAny_pyNext_zipD2_item (sepB D) (drawsB p hh i1 a D.l1i1 its.toArray) (drawsB q hh i2 b D.l2i2 its2.toArray) hz hTI hTO ⟨h1, p1⟩ ⟨h2, p2⟩ l1 l2 fun u' u2' h' tk e1 e2 z' TO' h1' h2' hT hsz hk => ?_
    have eu : u' = u := by
      rw [List.getElem?_toArray, hu] at e1
      exact (Option.some.inj e1).symm
    have eu2 : u2' = u2 := by
      rw [List.getElem?_toArray, hu2] at e2
      exact (Option.some.inj e2).symm
    subst eu eu2
    refine ⟨_, rfl, wpAny_letOwnedTupleGo_zip (s := { s with heap := h', toks := tk }) z' fun h'' z'' sb => ?_⟩
    have hT2 : h''.get? s.heap.objs.size = some { cls := .type "tuple", data := .seq #[u', u2'] } := (sb.2 _ (Nat.ne_of_gt hzl)).trans hT
    have new : ObjOk X.prog X.w (upd H s.heap.objs.size (.tup [x, y])) h'' s.heap.objs.size (.tup [x, y]) :=
      ⟨by show 2 ≤ sizeLine; decide, [u', u2'], .cons ru (.cons ru2 .nil), ⟨_, hT2, rfl, _, rfl⟩⟩
    have I1 : Inv X pins σ (upd H s.heap.objs.size (.tup [x, y])) { s with heap := h'', toks := tk } :=
      I.turnedNew (t' := tk) (ch := [z, TI, TO, i1, i2]) (fun c o hb q => (sb.2 c (fun q' => hb (by simp [q']))).trans (hk c o (fun q' => hb (by simp [q'])) (fun q' => hb (by simp [q'])) (fun q' => hb (by simp [q'])) (fun q' => hb (by simp [q'])) q)) hf (Nat.le_refl _) new
    refine ⟨.ref s.heap.objs.size, _, I1, rfl, ⟨_, x, y, rfl, I.hok.fresh (Nat.le_refl _), rfl, fun l hl => by rw [seqB_inj I hl hqx]; exact hx, fun l hl => by rw [seqB_inj I hl hqy]; exact hy⟩, ⟨z'', ?_, ⟨u', u2', ?_⟩, ?_, ?_⟩, fun c hcm => ?_⟩
    · exact (sb.2 _ D.TIz).trans (hk _ _ D.TIz D.TITO D.TIi1 D.TIi2 hTI)
    · exact (sb.2 _ D.TOz).trans TO'
    · exact h1'.1.at fun o q => (sb.2 _ D.i1z).trans q
    · exact h2'.1.at fun o q => (sb.2 _ D.i2z).trans q
    · have hlt : c < s.heap.objs.size := by
        have e' : c = z ∨ c = TI ∨ c = TO ∨ c = i1 ∨ c = i2 := by simpa using hcm
        rcases e' with q | q | q | q | q
        · rw [q]; exact hzl
        · rw [q]; exact Heap.lt_size hTI
        · rw [q]; exact Heap.lt_size hTO
        · rw [q]; obtain ⟨_, e1, _⟩ := h1.obj; exact Heap.lt_size e1
        · rw [q]; obtain ⟨_, e1, _⟩ := h2.obj; exact Heap.lt_size e1
      rw [upd_ne (Nat.ne_of_lt hlt)]
      exact (hf c hcm).1
  done := by
    intro X hP hw hK hc i pins s σ H E I hf st hg
    subst hP hw hK
    obtain ⟨hz, hTI, ⟨x0, y0, hTO⟩, h1, h2⟩ := st
    obtain ⟨xs, ys, hqx, hqy, le1, le2, hend⟩ := hg
    obtain ⟨its, rv, p1⟩ := seqB I hqx
    obtain ⟨its2, rv2, p2⟩ := seqB I hqy
    have l1 := rv.length
    have l2 := rv2.length
    have hh : X.A.in1.handled = none := I.ok.hd hc
    have s1 : its.toArray.size = its.length := by simp
    have s2 : its2.toArray.size = its2.length := by simp
    refine wpAny_pyNext_zipD2_end (sepB D) (drawsB p hh i1 a D.l1i1 its.toArray) (drawsB q hh i2 b D.l2i2 its2.toArray) hz hTI hTO ⟨h1, p1⟩ ⟨h2, p2⟩ (by rw [s1]; omega) (by rw [s2]; omega) (by rw [s1, s2]; omega) fun h' tk hk => ⟨rfl, I.turnedL (t' := tk) (ch := [z, TI, TO, i1, i2]) (fun c o hb q =>
      hk c o (fun q' => hb (by simp [q'])) (fun q' => hb (by simp [q'])) (fun q' => hb (by simp [q'])) (fun q' => hb (by simp [q'])) q) hf⟩
  self := fun A i s Q E st h => wpAny_pyIter_zip st.1 h
def iZipB (K : PySem.W.Frag) (ta : TA) : TI := fun σ H R => ta σ H fun vs H1 => ∃ p q a b xs ys, vs = [.ref a, .ref b] ∧ SqB p K H1 a xs ∧ SqB q K H1 b ys ∧ R (ItzB p q K a b) H1
theorem pi_zipB {X : Cx} {e e2 : Expr} {ta : TA} {p pos tpos : Pos} {elts : List Expr} {kk : Nat} (hg : Gl X "zip") (hm : X.mg "zip" = none) (ha : PA X [e, e2] ta)
    (hs : starEach [e, e2] X.env = (false, eval e X.env) :: starEach [e2] X.env := by rfl) (hpl : (backTo pos (starEach [e2] X.env)).any (·.1) = false := by rfl) :
    PI X (.Tuple elts kk tpos) (.Call (.Name "zip" p) [e, e2] [] pos) (iZipB X.K ta) := by
  refine ⟨fun pins s σ H R I h => ?_⟩
  refine Call_ (ld_blt I hg hm PyProof.Rows.boot_zip (PyProof.Rows.callWith_type1 (thn (ha.run pos pins s σ H _ I h) fun us s1 ⟨vs, H1, I1, r1, q1⟩ => ?_) hs hpl))
  obtain ⟨p, q, a, b, xs, ys, ex, hqx, hqy, g⟩ := q1
  subst ex
  cases r1 with
  | cons r rr =>
    cases rr with
    | cons r' rr =>
      cases rr
      cases r
      cases r'
      have fresh5 : ∀ c, c ∈ [s1.heap.objs.size + 4, s1.heap.objs.size + 2, s1.heap.objs.size + 3, s1.heap.objs.size, s1.heap.objs.size + 1] → FpOk X pins H1 c := fun c hcm => by
        have e' : c = s1.heap.objs.size + 4 ∨ c = s1.heap.objs.size + 2 ∨ c = s1.heap.objs.size + 3 ∨ c = s1.heap.objs.size ∨ c = s1.heap.objs.size + 1 := by simpa using hcm
        have hle : s1.heap.objs.size ≤ c := by
          rcases e' with z | z | z | z | z
          · rw [z]; exact Nat.le_add_right _ _
          · rw [z]; exact Nat.le_add_right _ _
          · rw [z]; exact Nat.le_add_right _ _
          · rw [z]; exact Nat.le_refl _
          · rw [z]; exact Nat.le_add_right _ _
        exact I1.fpOk hle (I1.hok.fresh hle)
      obtain ⟨its, rv, p1⟩ := seqB I1 hqx
      obtain ⟨its2, rv2, p2⟩ := seqB I1 hqy
      refine zip_begins2 (beginsB p a its.toArray) (beginsB q b its2.toArray) p1 p2 fun h' hz hTI hTO h1 h2 hsz hk => wpAny_pyIter_zip hz ?_
      have I2 : Inv X pins σ H1 { s1 with heap := h' } := I1.kept (t' := s1.toks) hk
      exact ⟨s1.heap.objs.size + 4, [s1.heap.objs.size + 4, s1.heap.objs.size + 2, s1.heap.objs.size + 3, s1.heap.objs.size, s1.heap.objs.size + 1], _, _, H1, rfl, I2, turn_zipB p q (PySem.W.ktu_apart s1.heap.objs.size a b p1.lt p2.lt), ⟨hz, hTI, ⟨_, _, hTO⟩, itB_of h1, itB_of h2⟩, fresh5, g⟩
/-- a comprehension over zip of two rows alike in length -/
theorem lc_zipB {p q : Bool} {K : PySem.W.Frag} {a b : Addr} {xs ys : List V} {g : TG} {tt : TT} {te : TE} {vs : List Nat} {σ : L2.St} {H1 : Hp} {D : Addr} {Qd : Hp → Prop} (hl : xs.length = ys.length) (Pv : Nat → Hp → Prop) (h0 : Pv 0 (upd H1 D (.lst [])))
    (hq : ∀ i H, Pv i H → SqB p K H a xs ∧ SqB q K H b ys)
    (hs : ∀ (i : Nat) (x y : V) (T : Addr) (H : Hp), xs[i]? = some x → ys[i]? = some y → Pv i H → H T = none → g (.ref T) (wipe σ vs) (upd H T (.tup [x, y])) fun σ2 H2 => wipe σ2 vs = wipe σ vs ∧ tt σ2 H2 fun b H3 =>
      if b = true then te σ2 H3 fun y H4 => ∃ acc, H4 D = some (.lst acc) ∧ acc.length < sizeLine ∧ Pv (i + 1) (upd H4 D (.lst (acc ++ [y]))) else Pv (i + 1) H3) (hd : ∀ H, Pv xs.length H → Qd H) :
    ∃ W : Nat → Nat → Hp → Prop, (∃ m, W 0 m (upd H1 D (.lst []))) ∧ ∀ i m H, W i m H →
      (((ItzB p q K a b).stop i H ∧ Qd H) ∨ ((ItzB p q K a b).go i H ∧ ∃ Nx : Hp → Prop, (∀ H', Nx H' → ∃ m', m' < m ∧ W (i + 1) m' H') ∧ ∀ x H', (ItzB p q K a b).yld i H x H' → g x (wipe σ vs) H' fun σ2 H2 => wipe σ2 vs = wipe σ vs ∧ tt σ2 H2 fun b H3 =>
        if b = true then te σ2 H3 fun y H4 => ∃ acc, H4 D = some (.lst acc) ∧ acc.length < sizeLine ∧ Nx (upd H4 D (.lst (acc ++ [y]))) else Nx H3)) := by
  refine ⟨fun i m H => m = xs.length - i ∧ i ≤ xs.length ∧ Pv i H, ⟨xs.length, by simp, Nat.zero_le _, h0⟩, ?_⟩
  rintro i m H ⟨rfl, hi, pv⟩
  obtain ⟨qx, qy⟩ := hq i H pv
  by_cases hlt : i < xs.length
  · have hx : xs[i]? = some xs[i] := List.getElem?_eq_getElem hlt
    have hlt2 : i < ys.length := by omega
    have hy : ys[i]? = some ys[i] := List.getElem?_eq_getElem hlt2
    refine .inr ⟨⟨xs, ys, xs[i], ys[i], qx, qy, hx, hy⟩, Pv (i + 1), fun H' p' => ⟨xs.length - (i + 1), by omega, rfl, hlt, p'⟩, fun v H' y => ?_⟩
    obtain ⟨T, x', y', e1, n, e2, h1, h2⟩ := y
    rw [e1, e2]
    exact hs i x' y' T H (h1 xs qx) (h2 ys qy) pv n
  · have e : i = xs.length := by omega
    subst e
    exact .inl ⟨⟨xs, ys, qx, qy, Nat.le_refl _, by omega, .inl rfl⟩, hd H pv⟩
/-- a loop over zip of two rows alike in length -/
theorem for_zipB {p q : Bool} {K : PySem.W.Frag} {a b : Addr} {xs ys : List V} {g : TG} {tb : TS} {D : Ends} {σ : L2.St} {H : Hp} (hl : xs.length = ys.length) (Pv : Nat → L2.St → Hp → Prop) (h0 : Pv 0 σ H) (hq : ∀ i σ H, Pv i σ H → SqB p K H a xs ∧ SqB q K H b ys)
    (hs : ∀ (i : Nat) (x y : V) (T : Addr) (σ : L2.St) (H : Hp), xs[i]? = some x → ys[i]? = some y → Pv i σ H → H T = none → g (.ref T) σ (upd H T (.tup [x, y])) fun σ2 H2 => tb { D with nx := Pv (i + 1), ct := Pv (i + 1), bk := D.nx } σ2 H2) (hd : ∀ σ H, Pv xs.length σ H → D.nx σ H) :
    ∃ W : Nat → Nat → L2.St → Hp → Prop, (∃ m, W 0 m σ H) ∧ ∀ i m σ H, W i m σ H →
      ((ItzB p q K a b).stop i H ∧ D.nx σ H) ∨ ((ItzB p q K a b).go i H ∧ ∃ N : L2.St → Hp → Prop, (∀ σ' H', N σ' H' → ∃ m', m' < m ∧ W (i + 1) m' σ' H') ∧ ∀ v H', (ItzB p q K a b).yld i H v H' → g v σ H' fun σ2 H2 => tb { D with nx := N, ct := N, bk := D.nx } σ2 H2) := by
  refine ⟨fun i m σ H => m = xs.length - i ∧ i ≤ xs.length ∧ Pv i σ H, ⟨xs.length, rfl, Nat.zero_le _, h0⟩, ?_⟩
  rintro i m σ H ⟨rfl, hi, pv⟩
  obtain ⟨qx, qy⟩ := hq i σ H pv
  by_cases hlt : i < xs.length
  · have hx : xs[i]? = some xs[i] := List.getElem?_eq_getElem hlt
    have hlt2 : i < ys.length := by omega
    have hy : ys[i]? = some ys[i] := List.getElem?_eq_getElem hlt2
    refine .inr ⟨⟨xs, ys, _, _, qx, qy, hx, hy⟩, Pv (i + 1), fun σ' H' p' => ⟨xs.length - (i + 1), by omega, rfl, hlt, p'⟩, fun v H' y => ?_⟩
    obtain ⟨T, x', y', rfl, hT, rfl, f1, f2⟩ := y
    exact hs i x' y' T σ H (f1 xs qx) (f2 ys qy) pv hT
  · have e : i = xs.length := by omega
    subst e
    exact .inl ⟨⟨xs, ys, qx, qy, Nat.le_refl _, by omega, .inl rfl⟩, hd σ H pv⟩
/-! ### enumerate -/
def IteB (p : Bool) (K : PySem.W.Frag) (a : Addr) : It :=
  ⟨fun i H => ∃ (xs : List V) (x : V), SqB p K H a xs ∧ xs[i]? = some x, fun i H v H' => ∃ T x, v = .ref T ∧ H T = none ∧ H' = upd H T (.tup [.int (i : Nat), x]) ∧ ∀ xs, SqB p K H a xs → xs[i]? = some x, fun i H => ∃ xs : List V, SqB p K H a xs ∧ xs.length = i⟩
theorem turn_enumB {P : Program} {w : World} {K : PySem.W.Frag} {elts : List Expr} {kk : Nat} {tpos : Pos} (p : Bool) (a e it : Addr) (hae : a ≠ e) (hai : a ≠ it) :
    Turn P w K (.Tuple elts kk tpos) (IteB p K a) [e, it] e (fun i h => (∃ old, IsEnum h e it ((i : Nat) : Int) old) ∧ ItB p h it a i ∧ e ≠ it) where
  mem := by simp
  obj := fun i h st b hb => by
    obtain ⟨⟨old, he⟩, h1, _⟩ := st
    have e' : b = e ∨ b = it := by simpa using hb
    rcases e' with z | z
    · rw [z]; exact ⟨_, he, fun v q => nomatch q⟩
    · rw [z]; exact h1.obj
  keep := fun i h h' st k => let ⟨⟨old, he⟩, hi, hne⟩ := st; ⟨⟨old, k e (by simp) _ he⟩, hi.at fun o q => k it (by simp) o q, hne⟩
  item := by
    intro X hP hw hK hc i pins s σ H E I hf st hg
    subst hP hw hK
    obtain ⟨⟨old, he⟩, hit, hne⟩ := st
    obtain ⟨xs, x, hq, hx⟩ := hg
    obtain ⟨its, rv, p1⟩ := seqB I hq
    obtain ⟨u, hu, ru⟩ := rv.get hx
    have hel : e < s.heap.objs.size := Heap.lt_size he
    have hil : it < s.heap.objs.size := by obtain ⟨_, q, _⟩ := hit.obj; exact Heap.lt_size q
    have hh : X.A.in1.handled = none := I.ok.hd hc
    have l1 : i < its.toArray.size := by
      have := (List.getElem?_eq_some_iff.mp hu).1
      simpa using this
    refine wpAny_pyNext_enum_itemD (drawsB p hh it a hai its.toArray) he ⟨hit, p1⟩ l1 hne (by simp [hne, hae.symm]) fun u' h' tk e1 ho hit' hT hsz hk => ?_
    have eu : u' = u := by
      rw [List.getElem?_toArray, hu] at e1
      exact (Option.some.inj e1).symm
    subst eu
    refine ⟨_, rfl, wpAny_letOwnedTupleGo_enum (s := { s with heap := h', toks := tk + 1 }) ho fun h'' he' sb => ?_⟩
    have hT2 : h''.get? s.heap.objs.size = some { cls := .type "tuple", data := .seq #[.int i tk, u'] } := (sb.2 _ (Nat.ne_of_gt hel)).trans hT
    have new : ObjOk X.prog X.w (upd H s.heap.objs.size (.tup [.int (i : Nat), x])) h'' s.heap.objs.size (.tup [.int (i : Nat), x]) :=
      ⟨by show 2 ≤ sizeLine; decide, [.int i tk, u'], .cons ⟨_, rfl⟩ (.cons ru .nil), ⟨_, hT2, rfl, _, rfl⟩⟩
    have I1 : Inv X pins σ (upd H s.heap.objs.size (.tup [.int (i : Nat), x])) { s with heap := h'', toks := tk + 1 } :=
      I.turnedNew (ch := [e, it]) (fun b ob hb q => (sb.2 b (fun z => hb (by simp [z]))).trans (hk b ob (fun z => hb (by simp [z])) (fun z => hb (by simp [z])) q)) hf (Nat.le_refl _) new
    refine ⟨.ref s.heap.objs.size, _, I1, rfl, ⟨_, x, rfl, I.hok.fresh (Nat.le_refl _), rfl, fun ys hy => by rw [seqB_inj I hy hq]; exact hx⟩, ⟨⟨u', ?_⟩, hit'.1.at fun o q => (sb.2 it (Ne.symm hne)).trans q, hne⟩, fun b hb => ?_⟩
    · have e1 : ((i + 1 : Nat) : Int) = (i : Int) + 1 := by omega
      rw [e1]; exact he'
    · have hb' : b < s.heap.objs.size := by
        have e' : b = e ∨ b = it := by simpa using hb
        rcases e' with z | z
        · rw [z]; exact hel
        · rw [z]; exact hil
      rw [upd_ne (Nat.ne_of_lt hb')]
      exact (hf b hb).1
  done := by
    intro X hP hw hK hc i pins s σ H E I hf st hg
    subst hP hw hK
    obtain ⟨⟨old, he⟩, hit, hne⟩ := st
    obtain ⟨xs, hq, hx⟩ := hg
    obtain ⟨its, rv, p1⟩ := seqB I hq
    obtain ⟨f0, f1, f2, f3, f4, f5⟩ := hf it (by simp)
    have hl := rv.length
    have hh : X.A.in1.handled = none := I.ok.hd hc
    have s1 : its.toArray.size = i := by simp; omega
    refine wpAny_pyNext_enum_endD (drawsB p hh it a hai its.toArray) he (by rw [s1]; exact ⟨hit, p1⟩) fun h' eb => ⟨rfl, I.turned (t' := s.toks) (fun b o hb q => eb b o hb q) f0 f1 f3 f4 f5⟩
  self := fun A i s Q E st h => let ⟨⟨_, he⟩, _⟩ := st; wpAny_pyIter_enum he h
theorem meets_enumerate_newB1 {v : Value} {o : Obj} {H : Heap → Prop} (B : Begins v o H) :
    Meets (Builtin.«enumerate.__new__» ⟨[.type "enumerate", v], []⟩) (fun _ R s => H s.heap ∧
      R (.ok (.ret (.ref (s.heap.push o).objs.size))) { s with heap := (s.heap.push o).push { cls := .type "enumerate", data := .fields #[.none, .bool false, .ref s.heap.objs.size, rawInt 0, .none, .none] } }) :=
  .of_wp fun prog w A R s h => by
    obtain ⟨hp, g, d, tk, os⟩ := s; obtain ⟨h1, h⟩ := h
    have hsub := sub_enumerate
    have q1 : ∀ {A' : Around} {E : Value → Shared → Prop} {Q : Value → Shared → Prop}, Q (.ref hp.objs.size) ⟨hp.push o, g, d, tk, os⟩ → wpAny (model prog w) A' (pyIter v) Q E ⟨hp, g, d, tk, os⟩ :=
      fun q => B.iter prog w _ _ ⟨hp, g, d, tk, os⟩ _ h1 q
    wp_walk using q1
    first
      | exact ⟨_, rfl, h⟩
      | (refine wpAny_stack_any fun st => wpAny_pure ?_
         split
         · rename_i c _ _ _ _ _
           cases (c == Value.type "enumerate")
           · wp_walk using q1
             exact ⟨_, rfl, h⟩
           · wp_walk using q1
             exact ⟨_, rfl, h⟩
         · wp_walk using q1
           exact ⟨_, rfl, h⟩)
section
variable {prog : Program} {w : World} {A : Around} {E : Value → Shared → Prop} {s : Shared}
theorem enum_begins1 {v : Value} {o : Obj} {H : Heap → Prop} {Q : Value → Shared → Prop} (B : Begins v o H) (h1 : H s.heap)
    (h : ∀ h', IsEnum h' (s.heap.objs.size + 1) s.heap.objs.size 0 .none → h'.get? s.heap.objs.size = some o → h'.objs.size = s.heap.objs.size + 2 →
      (∀ b o, s.heap.get? b = some o → h'.get? b = some o) → Q (.ref (s.heap.objs.size + 1)) { s with heap := h' }) :
    wpAny (model prog w) A (call (.type "enumerate") [v]) Q E s := by
  refine callType_new F.called_enumerate (by decide) (F.typeCall_enumerate_1 _) (F.newCall_enumerate_1 _) (fun obj => F.args_object_init_2 obj _) F.entry_enumerate_new
    (meets_enumerate_newB1 B) ⟨h1, ?_⟩
  have hz : (s.heap.push o).objs.size = s.heap.objs.size + 1 := Heap.size_push ..
  show _ ∧ _
  rw [hz]
  have he : IsEnum ((s.heap.push o).push { cls := .type "enumerate", data := .fields #[.none, .bool false, .ref s.heap.objs.size, rawInt 0, .none, .none] }) (s.heap.objs.size + 1) s.heap.objs.size 0 .none := by
    have := Heap.get?_push_size (s.heap.push o) (o := { cls := .type "enumerate", data := .fields #[.none, .bool false, .ref s.heap.objs.size, rawInt 0, .none, .none] }) rfl
    rw [hz] at this; exact this
  refine ⟨⟨_, he, rfl⟩, h _ he (Heap.get?_push_of_some _ (Heap.get?_push_size _ B.free)) (by rw [Heap.size_push, hz]) fun b o x => Heap.get?_push_of_some _ (Heap.get?_push_of_some _ x)⟩
end
def iEnumB (K : PySem.W.Frag) (ta : TA) : TI := fun σ H R => ta σ H fun vs H1 => ∃ p a xs, vs = [.ref a] ∧ SqB p K H1 a xs ∧ R (IteB p K a) H1
theorem pi_enumB {X : Cx} {e : Expr} {ta : TA} {p pos tpos : Pos} {elts : List Expr} {kk : Nat} (hg : Gl X "enumerate") (hm : X.mg "enumerate" = none) (ha : PA X [e] ta) (hs : starEach [e] X.env = [(false, eval e X.env)] := by rfl) :
    PI X (.Tuple elts kk tpos) (.Call (.Name "enumerate" p) [e] [] pos) (iEnumB X.K ta) := by
  refine ⟨fun pins s σ H R I h => ?_⟩
  refine Call_ (ld_blt I hg hm boot_enumerate (PyProof.Rows.callWith_type1 (thn (ha.run pos pins s σ H _ I h) fun us s1 ⟨vs, H1, I1, r1, q1⟩ => ?_) hs rfl))
  obtain ⟨p, a, xs, ex, hq, q⟩ := q1
  subst ex
  cases r1 with
  | cons r rr =>
    cases rr
    cases r
    obtain ⟨its, rv, p1⟩ := seqB I1 hq
    have al := p1.lt
    refine enum_begins1 (beginsB p a its.toArray) p1 fun h' he hit hsz hk => wpAny_pyIter_enum he ?_
    have I2 : Inv X pins σ H1 { s1 with heap := h' } := I1.kept (t' := s1.toks) hk
    refine ⟨s1.heap.objs.size + 1, [s1.heap.objs.size + 1, s1.heap.objs.size], _, _, H1, rfl, I2, turn_enumB p a (s1.heap.objs.size + 1) s1.heap.objs.size (Nat.ne_of_lt (Nat.lt_of_lt_of_le al (Nat.le_add_right _ _))) (Nat.ne_of_lt al), ⟨⟨.none, he⟩, itB_of hit, Nat.succ_ne_self _⟩, fun b hb => ?_, q⟩
    have e' : b = s1.heap.objs.size + 1 ∨ b = s1.heap.objs.size := by simpa using hb
    have hle : s1.heap.objs.size ≤ b := by
      rcases e' with z | z
      · rw [z]; exact Nat.le_add_right _ _
      · rw [z]; exact Nat.le_refl _
    exact I1.fpOk hle (I1.hok.fresh hle)
/-- a comprehension over enumerate of a row -/
theorem lc_enumB {p : Bool} {K : PySem.W.Frag} {a : Addr} {xs : List V} {g : TG} {tt : TT} {te : TE} {vs : List Nat} {σ : L2.St} {H1 : Hp} {D : Addr} {Qd : Hp → Prop} (Pv : Nat → Hp → Prop) (h0 : Pv 0 (upd H1 D (.lst [])))
    (hq : ∀ i H, Pv i H → SqB p K H a xs)
    (hs : ∀ (i : Nat) (x : V) (T : Addr) (H : Hp), xs[i]? = some x → Pv i H → H T = none → g (.ref T) (wipe σ vs) (upd H T (.tup [.int (i : Nat), x])) fun σ2 H2 => wipe σ2 vs = wipe σ vs ∧ tt σ2 H2 fun b H3 =>
      if b = true then te σ2 H3 fun y H4 => ∃ acc, H4 D = some (.lst acc) ∧ acc.length < sizeLine ∧ Pv (i + 1) (upd H4 D (.lst (acc ++ [y]))) else Pv (i + 1) H3) (hd : ∀ H, Pv xs.length H → Qd H) :
    ∃ W : Nat → Nat → Hp → Prop, (∃ m, W 0 m (upd H1 D (.lst []))) ∧ ∀ i m H, W i m H →
      (((IteB p K a).stop i H ∧ Qd H) ∨ ((IteB p K a).go i H ∧ ∃ Nx : Hp → Prop, (∀ H', Nx H' → ∃ m', m' < m ∧ W (i + 1) m' H') ∧ ∀ x H', (IteB p K a).yld i H x H' → g x (wipe σ vs) H' fun σ2 H2 => wipe σ2 vs = wipe σ vs ∧ tt σ2 H2 fun b H3 =>
        if b = true then te σ2 H3 fun y H4 => ∃ acc, H4 D = some (.lst acc) ∧ acc.length < sizeLine ∧ Nx (upd H4 D (.lst (acc ++ [y]))) else Nx H3)) := by
  refine ⟨fun i m H => m = xs.length - i ∧ i ≤ xs.length ∧ Pv i H, ⟨xs.length, by simp, Nat.zero_le _, h0⟩, ?_⟩
  rintro i m H ⟨rfl, hi, pv⟩
  have qx := hq i H pv
  by_cases hlt : i < xs.length
  · have hx : xs[i]? = some xs[i] := List.getElem?_eq_getElem hlt
    refine .inr ⟨⟨xs, xs[i], qx, hx⟩, Pv (i + 1), fun H' p' => ⟨xs.length - (i + 1), by omega, rfl, hlt, p'⟩, fun v H' y => ?_⟩
    obtain ⟨T, x', e1, n, e2, h1⟩ := y
    rw [e1, e2]
    exact hs i x' T H (h1 xs qx) pv n
  · have e : i = xs.length := by omega
    subst e
    exact .inl ⟨⟨xs, qx, rfl⟩, hd H pv⟩
end Vf

set_option maxRecDepth 100000
set_option maxHeartbeats 4000000
/-! a tuple once or more often -/
namespace Vf
open PySem PySem.Spec PyProof.Rows L2
theorem tuple_mul1 (l : Addr) (items : Array Value) (n : Nat) (sl : Array (Option Value)) (dd : Option Addr) (u : Tok) :
    Meets (Builtin.«tuple.__mul__» ⟨[.ref l, .int 1 u], []⟩) (fun _ R s => s.heap.get? l = some { cls := .type "tuple", dict := dd, data := .seq items n, slots := sl } ∧
      R (.ok (.ret (Value.ref l))) s) :=
  .of_wp fun prog w A R s h => by
    obtain ⟨hp, g, d, tk, os⟩ := s
    obtain ⟨hl, h⟩ := h
    have f1 := AutoSeq1.idx_int
    have c1 : (items.isEmpty || (1 : Int) == 1) = true := by
      rw [beq_self_eq_true, Bool.or_true]
    wp_walk using wpAny_loadPart' hl
    repeat (first
      | (refine wpAny_ite_true (decide_eq_true (by rw [c1])) ?_; wp_walk using wpAny_loadPart' hl))
    exact ⟨_, rfl, h⟩
/-- t * k, k from 1 on -/
def rRepA (K : PySem.W.Frag) : R2 := fun x y H Q => ∃ l k xs, x = .ref l ∧ y = .int k ∧ SqT K H l xs ∧ xs ≠ [] ∧ 1 ≤ k ∧ k ≤ 1000 ∧ xs.length ≤ 1000 ∧ ∀ p H', Same H H' → SqT K H' p (List.replicate k.toNat xs).flatten → Q (.ref p) H'
section
variable {X : Cx}
theorem op_repA : OpR X (binaryOp .Mult) (rRepA X.K) := by
  intro pins s σ H x y v u Q I rx ry h
  obtain ⟨l, k, xs, rfl, rfl, hT, hne, h1, h2, hz, q⟩ := h
  by_cases hk : k = 1
  · subst hk
    cases rx
    obtain ⟨t, rfl⟩ := ry
    obtain ⟨its, r, ⟨⟨cls, dd, data, sl⟩, ho, hc, n, hd⟩, hs⟩ := I.tuple hT
    simp only at hc hd
    subst hc hd
    refine wpAny_binaryOp_repeat_ref (T := "tuple") (U := "int") (by decide) ⟨_, ho, rfl⟩ (fun s' => typeIs_int s' 1 t) noFill_tuple_mul F.fills_int_mul F.slot_int_rmul repeat_tuple F.slot_int_index.lookup
      (call_meets F.slot_int_rmul (typeIs_int s 1 t) F.entry_int_rmul (F.args_int_rmul_2 _ _) (int_rmul_tuple 1 t l its.toArray n dd sl)
        ⟨ho, rfl, ⟨_, ho, rfl⟩, call_meets F.slot_tuple_mul ⟨_, ho, rfl⟩ F.entry_tuple_mul (F.args_tuple_mul_2 _ _) (tuple_mul1 l its.toArray n sl dd t) ⟨ho, ?_⟩⟩)
    exact ⟨.ref l, H, I, rfl, q l H (Same.refl _) (by simpa using hT)⟩
  · exact op_repT pins s σ H _ _ v u Q I rx ry ⟨l, k, xs, rfl, rfl, hT, hne, by omega, h2, hz, fun p np => q p _ (fun b u e => by rw [upd_ne (ne_of_none e np)]; exact e) (.inl (.inl upd_same))⟩
end
end Vf

set_option maxRecDepth 100000
set_option maxHeartbeats 8000000
namespace Vf
open PySem PySem.Spec PyProof.Rows L2
def topS (i : Nat) : Stmt := PySem.Challenge.pw_nearcurves_k69_whole_rows_of_grids.main.body.getD i (.Pass ⟨0, 0, 0, 0⟩)
/-! ### the pen -/
def penL (l : Addr) (at_ dg ct fo : Int) : List (Key × V) := [(.inr "cells", .ref l), (.inr "at", .int at_), (.inr "digits", .int dg), (.inr "count", .int ct), (.inr "fold", .int fo)]
section
variable {l : Addr} {a d c f x : Int}
theorem pv1 : valV (penL l a d c f) (.inr "cells") = some (.ref l) := by kernel_rfl
theorem pv2 : valV (penL l a d c f) (.inr "at") = some (.int a) := by kernel_rfl
theorem pv3 : valV (penL l a d c f) (.inr "digits") = some (.int d) := by kernel_rfl
theorem pv4 : valV (penL l a d c f) (.inr "count") = some (.int c) := by kernel_rfl
theorem pv5 : valV (penL l a d c f) (.inr "fold") = some (.int f) := by kernel_rfl
theorem pp2 : putK (penL l a d c f) (.inr "at") (.int x) = penL l x d c f := by kernel_rfl
theorem pp3 : putK (penL l a d c f) (.inr "digits") (.int x) = penL l a x c f := by kernel_rfl
theorem pp4 : putK (penL l a d c f) (.inr "count") (.int x) = penL l a d x f := by kernel_rfl
theorem pp5 : putK (penL l a d c f) (.inr "fold") (.int x) = penL l a d c x := by kernel_rfl
theorem pm : mergeK [] [(.inr "cells", .ref l), (.inr "at", .int 0), (.inr "digits", .int 0), (.inr "count", .int 0), (.inr "fold", .int f)] = penL l 0 0 0 f := by kernel_rfl
end
/-- a pen at p that has been asked at most B times -/
structure PenC (at_ dg ct fo B : Int) : Prop where
  a0 : 0 ≤ at_
  d0 : 0 ≤ dg
  c0 : 0 ≤ ct
  cB : ct ≤ B
  f0 : 0 ≤ fo
  f1 : fo < 2147483587
def PenAt (H : Hp) (p l : Addr) (ns : List Int) (at_ dg ct fo : Int) : Prop := H p = some (.dK (penL l at_ dg ct fo)) ∧ H l = some (.lst (ns.map V.int)) ∧ ns.length ≤ 63
def Pen (H : Hp) (p l : Addr) (B : Int) : Prop := ∃ ns at_ dg ct fo, PenAt H p l ns at_ dg ct fo ∧ PenC at_ dg ct fo B
/-- all but p stands as it stood -/
def Kp (p : Addr) (H H' : Hp) : Prop := ∀ b o, b ≠ p → H b = some o → H' b = some o
theorem Kp.refl {p : Addr} {H : Hp} : Kp p H H := fun _ _ _ h => h
theorem Kp.trans {p : Addr} {H H1 H2 : Hp} (a : Kp p H H1) (b : Kp p H1 H2) : Kp p H H2 := fun c o n h => b c o n (a c o n h)
theorem Kp.of {p : Addr} {H H' : Hp} (s : Same H H') : Kp p H H' := fun b o _ h => s b o h
theorem same_upd {H : Hp} {p : Addr} {o : HO} (n : H p = none) : Same H (upd H p o) := fun b u e => by rw [upd_ne (ne_of_none e n)]; exact e
/-- the heap without p -/
def wo (p : Addr) (H : Hp) : Hp := fun b => if b = p then none else H b
theorem Kp.wo {p : Addr} {H H' : Hp} (k : Kp p H H') : Same (wo p H) (wo p H') := fun b o e => by
  unfold Vf.wo at e ⊢
  by_cases h : b = p
  · rw [if_pos h] at e
    cases e
  · rw [if_neg h] at e ⊢
    exact k b o h e
theorem wo_sub {p : Addr} {H : Hp} : Same (wo p H) H := fun b o e => by
  unfold Vf.wo at e
  by_cases h : b = p
  · rw [if_pos h] at e
    cases e
  · rw [if_neg h] at e
    exact e
theorem wo_at {p b : Addr} {H : Hp} {o : HO} (h : b ≠ p) (e : H b = some o) : wo p H b = some o := by
  unfold Vf.wo
  rw [if_neg h]
  exact e
theorem PenAt.ne {H : Hp} {p l : Addr} {ns : List Int} {a d c f : Int} (h : PenAt H p l ns a d c f) : l ≠ p := ne_of h.2.1 h.1 (by intro z; cases z)
theorem PenAt.same {H H' : Hp} {p l : Addr} {ns : List Int} {a d c f : Int} (h : PenAt H p l ns a d c f) (s : Same H H') : PenAt H' p l ns a d c f := ⟨s _ _ h.1, s _ _ h.2.1, h.2.2⟩
theorem Pen.same {H H' : Hp} {p l : Addr} {B : Int} (h : Pen H p l B) (s : Same H H') : Pen H' p l B := by
  obtain ⟨ns, a, d, c, f, h1, h2⟩ := h
  exact ⟨ns, a, d, c, f, h1.same s, h2⟩
theorem Pen.more {H : Hp} {p l : Addr} {B B' : Int} (h : Pen H p l B) (e : B ≤ B') : Pen H p l B' := by
  obtain ⟨ns, a, d, c, f, h1, h2⟩ := h
  exact ⟨ns, a, d, c, f, h1, h2.a0, h2.d0, h2.c0, Int.le_trans h2.cB e, h2.f0, h2.f1⟩
theorem Pen.there {H : Hp} {p l : Addr} {B : Int} (h : Pen H p l B) : ∃ o, H p = some o := by
  obtain ⟨ns, a, d, c, f, h1, h2⟩ := h
  exact ⟨_, h1.1⟩
theorem PenAt.put {H : Hp} {p l : Addr} {ns : List Int} {a d c f a' d' c' f' : Int} (h : PenAt H p l ns a d c f) : PenAt (upd H p (.dK (penL l a' d' c' f'))) p l ns a' d' c' f' :=
  ⟨upd_same, by rw [upd_ne h.ne]; exact h.2.1, h.2.2⟩
theorem kp_upd {H : Hp} {p : Addr} {o : HO} : Kp p H (upd H p o) := fun b u n e => by rw [upd_ne n]; exact e

def spPen (K : PySem.W.Frag) : Sp := fun vs H Q _ => ∃ (a : Addr) (ns : List Int), vs = [.ref a] ∧ SqL K H a (ns.map V.int) ∧ ns.length ≤ 63 ∧ ∀ (p l : Addr) (H' : Hp), Same H H' → H p = none → H l = none → Pen H' p l 0 → Q (.ref p) H'
def spDraw : Sp := fun vs H Q _ => ∃ (p l : Addr) (B many : Int), vs = [.ref p, .int many] ∧ Pen H p l B ∧ B ≤ 1000000000 ∧ 0 < many ∧ many < 1000000 ∧
  ∀ (z : Int) (H' : Hp), 0 ≤ z → z < many → Pen H' p l (B + 1) → Kp p H H' → Q (.int z) H'
def spPick : Sp := fun vs H Q _ => ∃ (p l s : Addr) (B : Int) (xs : List V), vs = [.ref p, .ref s] ∧ Pen H p l B ∧ B ≤ 1000000000 ∧ H s = some (.lst xs) ∧ s ≠ p ∧ 0 < xs.length ∧ xs.length < 1000000 ∧
  ∀ (x : V) (H' : Hp), x ∈ xs → Pen H' p l (B + 1) → Kp p H H' → Q x H'
def spFar : Sp := fun vs H Q _ => ∃ (p l : Addr) (B : Int), vs = [.ref p] ∧ Pen H p l B ∧ B ≤ 100000000 ∧
  ∀ (z : Int) (H' : Hp), -1000000000000000000 < z → z < 1000000000000000000 → Pen H' p l (B + 8) → Kp p H H' → Q (.int z) H'
/-- built-in names that the text leaves alone -/
structure Bi (mg : Str → Option Value) : Prop where
  int : mg "int" = none
  list : mg "list" = none
  len : mg "len" = none
  range : mg "range" = none
/-- a def of the text that raises nothing -/
structure Df (P : Program) (w : World) (K : PySem.W.Frag) (mg : Str → Option Value) (base : Heap) (x : Str) (k : Nat) (ps : List Str) (sp : Sp) where
  f : Addr
  fd : FuncData
  m : mg x = some (.ref f)
  kp : PySem.W.keepIn K (.ref f) = true
  b : Binds K fd ps []
  ok : FnOk P w K mg base CX0 k f fd ps sp

abbrev sPen : Stmt := topS 37
abbrev sDraw : Stmt := topS (37 + 1)
abbrev sPick : Stmt := topS (37 + 2)
section
variable {P : Program} {w : World} {K : PySem.W.Frag} {mg : Str → Option Value} {base : Heap}
theorem scPen : FnScope ["_law_script", "_law_fold", "_law_cell"] ["_law_script"] (defScope sPen) := ⟨rfl, rfl, rfl, by decide +kernel, rfl, by decide +kernel, by decide +kernel⟩
theorem ok_pen {f : Addr} {fd : FuncData} (F : Fun K "_law_pen" "_law_pen" sPen f fd) (T : Bi mg) : FnOk P w K mg base CX0 1 f fd ["_law_script"] (spPen K) := by
  refine F.ok scPen (fun vs H Q E h => ?_) (fun cdv A outer s H vs Q E hr h => ?_)
  · obtain ⟨a, ns, rfl, _⟩ := h
    rfl
  · obtain ⟨a, ns, rfl, hS, hl, k⟩ := h
    refine ⟨_, (pss_cons (ps_set (i := 1) scPen.nd rfl (Or.inl rfl) pe_int)
      (pss_cons (ps_for PassesOwn.never rfl (pi_list (pv 0)) (pg_name (i := 2) scPen.nd rfl (Or.inl rfl))
        (pss_one (ps_set (i := 1) scPen.nd rfl (Or.inl rfl) (pe_op op_mod (pe_callTy call_int1 (by rfl) T.int (by decide +kernel) (pa_cons (pe_op op_add (pe_op op_mul (pv 1) pe_int) (pv 2)) pa_nil)) pe_int))))
      (pss_one (ps_ret (pe_disp (pps_cons pe_str (pe_callTy call_list_of (by rfl) T.list (by decide +kernel) (pa_cons (pv 0) pa_nil)) (pps_cons pe_str pe_int (pps_cons pe_str pe_int (pps_cons pe_str pe_int (pps_cons pe_str (pv 1) pps_nil))))) (by rfl) (by rfl) (fun z => by cases z) (by decide)))))), ?_⟩
    refine ⟨_, rfl, a, rfl, ⟨_, hS⟩, for_list (K := K) (a := a) (xs := ns.map V.int) (fun i σ H2 => H2 = H ∧ ∃ (z : Int) (v : Option V), σ = [some (.ref a), some (.int z), v] ∧ 0 ≤ z ∧ z < 1000000007)
      ⟨rfl, 0, none, rfl, by decide, by decide⟩ (fun i σ H2 _ ⟨e, _⟩ => by rw [e]; exact hS) ?_ ?_⟩
    · rintro i y σ H2 hi ⟨rfl, z, v, rfl, h0, h1⟩
      obtain ⟨n, rfl⟩ : ∃ n, y = V.int n := by
        rw [List.getElem?_map] at hi
        cases e : ns[i]? with
        | none =>
          rw [e] at hi
          cases hi
        | some n =>
          rw [e] at hi
          exact ⟨n, (Option.some.inj hi).symm⟩
      refine ⟨_, rfl, _, _, rfl, rfl, .inl ⟨by omega, by omega⟩, _, rfl, _, _, rfl, rfl, .inl ⟨_, rfl, _, _, rfl, rfl, (by show (0 : Int) < 1000000007; decide), ?_⟩⟩
      exact ⟨rfl, _, _, rfl, Int.emod_nonneg _ (by decide), Int.emod_lt_of_pos _ (by decide)⟩
    · rintro σ H2 ⟨rfl, z, v, rfl, h0, h1⟩
      intro p np
      refine ⟨_, rfl, a, _, rfl, .inl ((same_upd np).seq hS), fun l nl => ?_⟩
      refine ⟨_, rfl, ?_⟩
      have npl : p ≠ l := ne_of_none upd_same nl
      refine ⟨by rw [upd_ne npl]; exact upd_same, [(.inr "cells", .ref l), (.inr "at", .int 0), (.inr "digits", .int 0), (.inr "count", .int 0), (.inr "fold", .int z)], rfl, (by show 5 ≤ 15; decide), ?_⟩
      rw [pm]
      have nl2 : H2 l = none := by
        have q := nl
        rw [upd_ne npl.symm] at q
        exact q
      refine k p l _ (fun b o e => ?_) np nl2 ⟨ns, 0, 0, 0, z, ⟨upd_same, by rw [upd_ne npl.symm]; exact upd_same, hl⟩, by decide, by decide, by decide, by decide, h0, by omega⟩
      rw [upd_ne (ne_of_none e np), upd_ne (ne_of_none e nl2), upd_ne (ne_of_none e np)]
      exact e
theorem scDraw : FnScope ["_law_pen_here", "_law_many", "_law_cell", "_law_digit", "_law_mixed"] ["_law_pen_here", "_law_many"] (defScope sDraw) := ⟨rfl, rfl, rfl, by decide +kernel, rfl, by decide +kernel, by decide +kernel⟩
theorem ok_draw {f : Addr} {fd : FuncData} (F : Fun K "_law_draw" "_law_draw" sDraw f fd) (T : Bi mg) : FnOk P w K mg base CX0 1 f fd ["_law_pen_here", "_law_many"] spDraw := by
  refine F.ok scDraw (fun vs H Q E h => ?_) (fun cdv A outer s H vs Q E hr h => ?_)
  · obtain ⟨p, l, B, m, rfl, _⟩ := h
    rfl
  · obtain ⟨p, l, B, m, rfl, ⟨ns, a0, d0, c0, f0, hP, hC⟩, hB, hm0, hm1, k⟩ := h
    have hu := hu_of hr
    have small : ∀ {l : Addr} {a d c f : Int}, (penL l a d c f).length < sizeLine := by intros; show 5 < sizeLine; decide
    refine ⟨_, (pss_cons (ps_dput hu (pv 0) pe_str (pe_op op_add (pe_dget hu (pv 0) pe_str (fun _ _ => rfl)) pe_int) rfl)
  (C8.pss_cut (ps_if (PW.pt (pw_and (pt_cmpR op_eq (pe_dget hu (pv 0) pe_str (fun _ _ => rfl)) pe_int (nomark _)) (pw_and1 (pt_cmpR op_lt (pe_dget hu (pv 0) pe_str (fun _ _ => rfl)) (pe_callB call_len_seq (by rfl) T.len (by decide +kernel) (pa_cons (pe_dget hu (pv 0) pe_str (fun _ _ => rfl)) pa_nil)) (nomark _)))))
    (pss_cons (ps_set (i := 2) scDraw.nd rfl (Or.inl rfl) (pe_ix ix_list (pe_dget hu (pv 0) pe_str (fun _ _ => rfl)) (pe_dget hu (pv 0) pe_str (fun _ _ => rfl)) (fun _ _ => rfl)))
    (pss_cons (ps_dput hu (pv 0) pe_str (pe_op op_add (pe_dget hu (pv 0) pe_str (fun _ _ => rfl)) pe_int) rfl)
    (pss_one (ps_if (pt_cmpR op_ge (pv 2) (pe_op op_pow pe_int pe_int) (nomark _))
      (pss_one (ps_dput hu (pv 0) pe_str (pe_op op_sub (pv 2) (pe_op op_pow pe_int pe_int)) rfl))
      (pss_one (ps_dput hu (pv 0) pe_str (pe_op op_mod (pe_callTy call_int1 (by rfl) T.int (by decide +kernel) (pa_cons (pe_op op_add (pe_op op_mul (pe_dget hu (pv 0) pe_str (fun _ _ => rfl)) pe_int) (pv 2)) pa_nil)) pe_int) rfl))))))
    pss_nil)
  (pss_cons (ps_if (pt_cmpR op_gt (pe_dget hu (pv 0) pe_str (fun _ _ => rfl)) pe_int (nomark _))
    (pss_cons (ps_set (i := 3) scDraw.nd rfl (Or.inl rfl) (pe_op op_mod (pe_callTy call_int1 (by rfl) T.int (by decide +kernel) (pa_cons (pe_dget hu (pv 0) pe_str (fun _ _ => rfl)) pa_nil)) (pv 1)))
    (pss_cons (ps_dput hu (pv 0) pe_str (pe_op op_fdiv (pe_dget hu (pv 0) pe_str (fun _ _ => rfl)) (pv 1)) rfl)
    (pss_one (ps_ret (pv 3)))))
    pss_nil)
  (pss_cons (ps_set (i := 4) scDraw.nd rfl (Or.inl rfl) (pe_op op_add (pe_op op_add (pe_dget hu (pv 0) pe_str (fun _ _ => rfl)) (pe_op op_mul (pe_dget hu (pv 0) pe_str (fun _ _ => rfl)) pe_int)) pe_int))
  (pss_one (ps_ret (pe_op op_mod (pe_op op_fdiv (pe_callTy call_int1 (by rfl) T.int (by decide +kernel) (pa_cons (pe_op op_mod (pe_op op_pow (pv 4) pe_int) pe_int) pa_nil)) pe_int) (pv 1)))))))), ?_⟩
    -- count
    refine ⟨_, rfl, p, .int c0, rfl, ?_, _, _, rfl, rfl, _, rfl, p, _, rfl, DPut.k (k := Sum.inr "count") hP.1 small, ?_⟩
    · have q := DGet.k (k := (Sum.inr "count" : Key)) hP.1
      rw [pv4] at q
      exact q
    rw [pp4]
    have hP1 := hP.put (a' := a0) (d' := d0) (c' := c0 + 1) (f' := f0)
    generalize hH1 : upd H p (.dK (penL l a0 d0 (c0 + 1) f0)) = H1 at hP1
    have k1 : Kp p H H1 := by rw [← hH1]; exact kp_upd
    clear hH1
    -- the cut: a pen again
    refine ⟨fun σ H2 => ∃ (v2 : Option V) (a d c f : Int), σ = [some (.ref p), some (.int m), v2, none, none] ∧ PenAt H2 p l ns a d c f ∧ PenC a d c f (B + 1) ∧ Kp p H H2, ?_, ?_⟩
    · have g3 : DGet H1 p (kV (Sum.inr "digits")) (some (.int d0)) := by
        have q := DGet.k (k := (Sum.inr "digits" : Key)) hP1.1
        rw [pv3] at q
        exact q
      have g2 : DGet H1 p (kV (Sum.inr "at")) (some (.int a0)) := by
        have q := DGet.k (k := (Sum.inr "at" : Key)) hP1.1
        rw [pv2] at q
        exact q
      have g1 : DGet H1 p (kV (Sum.inr "cells")) (some (.ref l)) := by
        have q := DGet.k (k := (Sum.inr "cells" : Key)) hP1.1
        rw [pv1] at q
        exact q
      refine ⟨_, rfl, p, _, rfl, g3, rfl, _, rfl, ?_⟩
      have stay : ∃ (v2 : Option V) (a d c f : Int), start ["_law_pen_here", "_law_many", "_law_cell", "_law_digit", "_law_mixed"] [V.ref p, V.int m] = [some (.ref p), some (.int m), v2, none, none] ∧ PenAt H1 p l ns a d c f ∧ PenC a d c f (B + 1) ∧ Kp p H H1 :=
        ⟨none, a0, d0, c0 + 1, f0, rfl, hP1, ⟨hC.a0, hC.d0, by have := hC.c0; omega, by have := hC.cB; omega, hC.f0, hC.f1⟩, k1⟩
      by_cases hd : d0 = 0
      · rw [decide_eq_true (by rw [hd])]
        refine iteT ?_
        refine ⟨_, rfl, p, _, rfl, g2, _, rfl, p, _, rfl, g1, l, _, rfl, .inl (SqL.of hP1.2.1), _, _, rfl, rfl, _, rfl, ?_⟩
        rw [List.length_map]
        by_cases ha : a0 < (ns.length : Int)
        · rw [decide_eq_true ha]
          refine iteT ?_
          have han : a0.toNat < ns.length := by have := hC.a0; omega
          have hat : (ns.map V.int)[a0.toNat]? = some (V.int ns[a0.toNat]) := by
            rw [List.getElem?_map, List.getElem?_eq_getElem han]
            rfl
          generalize ns[a0.toNat] = z at hat
          refine ⟨_, rfl, p, _, rfl, g1, _, rfl, p, _, rfl, g2, l, _, a0, .int z, rfl, rfl, SqL.of hP1.2.1, at_of (j := a0.toNat) (by have := hC.a0; omega) hat, ?_⟩
          refine ⟨_, rfl, p, _, rfl, g2, _, _, rfl, rfl, _, rfl, p, _, rfl, DPut.k (k := Sum.inr "at") hP1.1 small, ?_⟩
          rw [pp2]
          have hP2 := hP1.put (a' := a0 + 1) (d' := d0) (c' := c0 + 1) (f' := f0)
          generalize hH2 : upd H1 p (.dK (penL l (a0 + 1) d0 (c0 + 1) f0)) = H2 at hP2
          have k2 : Kp p H H2 := by rw [← hH2]; exact k1.trans kp_upd
          clear hH2
          refine ⟨_, rfl, _, _, rfl, rfl, ⟨by decide, by decide, by decide⟩, _, _, rfl, rfl, _, rfl, ?_⟩
          refine ite2 (fun hz => ?_) (fun hz => ?_)
          · have hz2 : (10 : Int) ^ (18 : Int).toNat ≤ z := of_decide_eq_true hz
            refine ⟨_, rfl, _, _, rfl, rfl, ⟨by decide, by decide, by decide⟩, _, _, rfl, rfl, _, rfl, p, _, rfl, DPut.k (k := Sum.inr "digits") hP2.1 small, ?_⟩
            rw [pp3]
            exact ⟨_, a0 + 1, _, c0 + 1, f0, rfl, hP2.put, ⟨by have := hC.a0; omega, by omega, by have := hC.c0; omega, by have := hC.cB; omega, hC.f0, hC.f1⟩, k2.trans kp_upd⟩
          · refine ⟨_, rfl, p, .int f0, rfl, ?_, _, _, rfl, rfl, .inl ⟨?_, ?_⟩, _, rfl, _, _, rfl, rfl, .inl ⟨_, rfl, _, _, rfl, rfl, (by show (0 : Int) < 2147483587; decide), _, rfl, p, _, rfl, DPut.k (k := Sum.inr "fold") hP2.1 small, ?_⟩⟩
            · have q := DGet.k (k := (Sum.inr "fold" : Key)) hP2.1
              rw [pv5] at q
              exact q
            · have := hC.f0; omega
            · have := hC.f1; omega
            rw [pp5]
            exact ⟨_, a0 + 1, d0, c0 + 1, _, rfl, hP2.put, ⟨by have := hC.a0; omega, hC.d0, by have := hC.c0; omega, by have := hC.cB; omega, Int.emod_nonneg _ (by decide), Int.emod_lt_of_pos _ (by decide)⟩, k2.trans kp_upd⟩
        · rw [decide_eq_false ha]
          refine iteF ?_
          exact stay
      · rw [decide_eq_false (fun z => hd (by have z2 := V.int.inj z; exact z2))]
        refine iteF ?_
        exact stay
    · rintro σ H2 ⟨v2, a, d, c, f, rfl, hP2, hC2, k2⟩
      have g3 : DGet H2 p (kV (Sum.inr "digits")) (some (.int d)) := by
        have q := DGet.k (k := (Sum.inr "digits" : Key)) hP2.1
        rw [pv3] at q
        exact q
      refine ⟨_, rfl, p, _, rfl, g3, _, _, rfl, rfl, _, rfl, ?_⟩
      refine ite2 (fun hz => ?_) (fun hz => ?_)
      · have hz2 : 0 < d := of_decide_eq_true hz
        refine ⟨_, rfl, p, _, rfl, g3, .inl ⟨_, rfl, _, rfl, _, _, rfl, rfl, hm0, ?_⟩⟩
        refine ⟨_, rfl, p, _, rfl, g3, _, rfl, _, _, rfl, rfl, ⟨hm0, by omega⟩, _, rfl, p, _, rfl, DPut.k (k := Sum.inr "digits") hP2.1 small, ?_⟩
        rw [pp3]
        exact ⟨_, rfl, k _ _ (Int.emod_nonneg _ (by omega)) (Int.emod_lt_of_pos _ hm0) ⟨ns, a, _, c, f, hP2.put, hC2.a0, Int.ediv_nonneg hC2.d0 (by omega), hC2.c0, hC2.cB, hC2.f0, hC2.f1⟩ (k2.trans kp_upd)⟩
      · refine ⟨_, rfl, p, .int f, rfl, ?_, _, rfl, p, .int c, rfl, ?_, _, _, rfl, rfl, .inl ⟨?_, ?_⟩, _, _, rfl, rfl, _, _, rfl, rfl, ?_⟩
        · have q := DGet.k (k := (Sum.inr "fold" : Key)) hP2.1
          rw [pv5] at q
          exact q
        · have q := DGet.k (k := (Sum.inr "count" : Key)) hP2.1
          rw [pv4] at q
          exact q
        · have := hC2.c0; omega
        · have := hC2.cB; omega
        have b1 := hC2.c0
        have b2 := hC2.cB
        have b3 := hC2.f0
        have b4 := hC2.f1
        refine ⟨_, rfl, _, _, rfl, rfl, ⟨by decide, by decide, ?_⟩, _, _, rfl, rfl, (by show (0 : Int) < 2305843009213693951; decide), .inl ⟨_, rfl, _, _, rfl, rfl, ⟨by decide, by decide⟩, _, rfl, _, _, rfl, rfl, hm0, ?_⟩⟩
        · show (f + c * 7907 + 43).natAbs < 2 ^ 64
          omega
        exact k _ _ (Int.emod_nonneg _ (by omega)) (Int.emod_lt_of_pos _ hm0) ⟨ns, a, d, c, f, hP2, hC2⟩ k2
theorem scPick : FnScope ["_law_pen_here", "_law_some"] ["_law_pen_here", "_law_some"] (defScope sPick) := ⟨rfl, rfl, rfl, by decide +kernel, rfl, by decide +kernel, by decide +kernel⟩
theorem ok_pick {f : Addr} {fd : FuncData} (F : Fun K "_law_pick" "_law_pick" sPick f fd) (T : Bi mg) (G : Df P w K mg base "_law_draw" 1 ["_law_pen_here", "_law_many"] spDraw) : FnOk P w K mg base CX0 2 f fd ["_law_pen_here", "_law_some"] spPick := by
  refine F.ok scPick (fun vs H Q E h => ?_) (fun cdv A outer s H vs Q E hr h => ?_)
  · obtain ⟨p, l, s, B, xs, rfl, _⟩ := h
    rfl
  · obtain ⟨p, l, s, B, xs, rfl, hP, hB, hs, hne, h0, h1, k⟩ := h
    refine ⟨_, (pss_one (ps_ret (pe_ix ix_list (pv 1) (pe_call G.ok hr rfl G.m G.kp G.b .nil pass0 (pa_cons (pv 0) (pa_cons (pe_callB call_len_seq (by rfl) T.len (by decide +kernel) (pa_cons (pv 1) pa_nil)) pa_nil))) (fun _ _ => rfl)))), ?_⟩
    refine ⟨_, rfl, _, rfl, _, rfl, s, _, rfl, .inl (SqL.of hs), p, l, B, _, rfl, hP, hB, by omega, by omega, fun z H' z0 z1 hP' kp => ?_⟩
    have hzn : z.toNat < xs.length := by omega
    exact ⟨s, xs, z, xs[z.toNat], rfl, rfl, SqL.of (kp _ _ hne hs), at_of (j := z.toNat) (by omega) (List.getElem?_eq_getElem hzn), k _ _ (List.getElem_mem hzn) hP' kp⟩
end

end Vf

set_option maxRecDepth 100000
set_option maxHeartbeats 8000000
namespace Vf
open PySem PySem.Spec PyProof.Rows L2
/-! ### the errors' own __init__ -/
def fl (names : List Str) (xs : List V) : List (Str × V) := (names.zip xs).reverse
/-- self.f = f, for each of the names -/
def spIni (C : Addr) (names : List Str) : Sp := fun vs H Q _ => ∃ (a : Addr) (xs : List V), vs = .ref a :: xs ∧ xs.length = names.length ∧ H a = some (exo a C none) ∧
  ∀ (d : Addr) (H' : Hp), H d = none → d ≠ a → H' a = some (exo a C (some d)) → H' d = some (exd d (fl names xs)) → (∀ b o, b ≠ a → H b = some o → H' b = some o) → Q .non H'
theorem keep2 {H : Hp} {a d : Addr} {o u : HO} (n : H d = none) : ∀ b z, b ≠ a → H b = some z → upd (upd H d o) a u b = some z := fun b z h e => by
  rw [upd_ne h, upd_ne (ne_of_none e n)]
  exact e
theorem keep3 {H1 H : Hp} {a d : Addr} {u : HO} (n : H d = none) (k : ∀ b z, b ≠ a → H b = some z → H1 b = some z) : ∀ b z, b ≠ a → H b = some z → upd H1 d u b = some z := fun b z h e => by
  rw [upd_ne (ne_of_none e n)]
  exact k b z h e
section
variable {P : Program} {w : World} {K : PySem.W.Frag} {mg : Str → Option Value} {base : Heap}
theorem scBadNumber : FnScope ["self", "what", "number"] ["self", "what", "number"] (defScope (inClass (topS 4) 0)) := ⟨rfl, rfl, rfl, by decide +kernel, rfl, by decide +kernel, by decide +kernel⟩
theorem iniBadNumber {f C : Addr} {fd : FuncData} (F : Fun K "__init__" "BadNumber.__init__" (inClass (topS 4) 0) f fd) (T : OexC K C) (n1 : PySem.W.findIn K (.ref C) "what" = some none) (n2 : PySem.W.findIn K (.ref C) "number" = some none) :
    FnOk P w K mg base CX0 1 f fd ["self", "what", "number"] (spIni C ["what", "number"]) := by
  refine F.ok scBadNumber (fun vs H Q E h => ?_) (fun cdv A outer s H vs Q E hr h => ?_)
  · obtain ⟨a, xs, rfl, hl, _⟩ := h
    rw [List.length_cons, hl]
    all_goals rfl
  · obtain ⟨a, xs, rfl, hl, ha, k⟩ := h
    match xs, hl with
    | [v1, v2], _ =>
    refine ⟨_, (pss_cons (ps_ost (pv 0) (pv 1)) (pss_one (ps_ost (pv 0) (pv 2)))), ?_⟩
    refine ⟨_, rfl, _, rfl, a, C, rfl, T, n1, .inl ⟨ha, fun d nd ne => ?_⟩⟩
    have e1 : (upd (upd H d (exd d [("what", v1)])) a (exo a C (some d))) a = some (exo a C (some d)) := upd_same
    have e2 : (upd (upd H d (exd d [("what", v1)])) a (exo a C (some d))) d = some (exd d [("what", v1)]) := by rw [upd_ne ne]; exact upd_same
    have e3 := keep2 (H := H) (a := a) (d := d) (o := exd d [("what", v1)]) (u := exo a C (some d)) nd
    generalize upd (upd H d (exd d [("what", v1)])) a (exo a C (some d)) = H1 at e1 e2 e3
    refine ⟨_, rfl, _, rfl, a, C, rfl, T, n2, .inr ⟨d, _, e1, e2, (by show 1 ≤ 900; decide), ?_⟩⟩
    exact k d _ nd ne (by rw [upd_ne ne.symm]; exact e1) upd_same (keep3 nd e3)
theorem scBadRow : FnScope ["self", "row"] ["self", "row"] (defScope (inClass (topS 5) 0)) := ⟨rfl, rfl, rfl, by decide +kernel, rfl, by decide +kernel, by decide +kernel⟩
theorem iniBadRow {f C : Addr} {fd : FuncData} (F : Fun K "__init__" "BadRow.__init__" (inClass (topS 5) 0) f fd) (T : OexC K C) (n1 : PySem.W.findIn K (.ref C) "row" = some none) :
    FnOk P w K mg base CX0 1 f fd ["self", "row"] (spIni C ["row"]) := by
  refine F.ok scBadRow (fun vs H Q E h => ?_) (fun cdv A outer s H vs Q E hr h => ?_)
  · obtain ⟨a, xs, rfl, hl, _⟩ := h
    rw [List.length_cons, hl]
    all_goals rfl
  · obtain ⟨a, xs, rfl, hl, ha, k⟩ := h
    match xs, hl with
    | [v1], _ =>
    refine ⟨_, (pss_one (ps_ost (pv 0) (pv 1))), ?_⟩
    refine ⟨_, rfl, _, rfl, a, C, rfl, T, n1, .inl ⟨ha, fun d nd ne => ?_⟩⟩
    exact k d _ nd ne upd_same (by rw [upd_ne ne]; exact upd_same) (keep2 nd)
theorem scUnlike : FnScope ["self", "what"] ["self", "what"] (defScope (inClass (topS 6) 0)) := ⟨rfl, rfl, rfl, by decide +kernel, rfl, by decide +kernel, by decide +kernel⟩
theorem iniUnlike {f C : Addr} {fd : FuncData} (F : Fun K "__init__" "Unlike.__init__" (inClass (topS 6) 0) f fd) (T : OexC K C) (n1 : PySem.W.findIn K (.ref C) "what" = some none) :
    FnOk P w K mg base CX0 1 f fd ["self", "what"] (spIni C ["what"]) := by
  refine F.ok scUnlike (fun vs H Q E h => ?_) (fun cdv A outer s H vs Q E hr h => ?_)
  · obtain ⟨a, xs, rfl, hl, _⟩ := h
    rw [List.length_cons, hl]
    all_goals rfl
  · obtain ⟨a, xs, rfl, hl, ha, k⟩ := h
    match xs, hl with
    | [v1], _ =>
    refine ⟨_, (pss_one (ps_ost (pv 0) (pv 1))), ?_⟩
    refine ⟨_, rfl, _, rfl, a, C, rfl, T, n1, .inl ⟨ha, fun d nd ne => ?_⟩⟩
    exact k d _ nd ne upd_same (by rw [upd_ne ne]; exact upd_same) (keep2 nd)
end
/-! ### ratios: the program's own defs -/
def tyD : PyData → String
  | .none => "NoneType"
  | .bool _ => "bool"
  | .int _ => "int"
  | .str _ => "str"
  | .list _ => "list"
  | .tuple _ => "tuple"
  | .dict _ => "dict"
theorem Dt.ty {K : PySem.W.Frag} {H : Hp} {v : V} {d : PyData} (h : Dt K H v d) : TyX K H v (.type (tyD d)) := by
  cases h with
  | non => exact .base .non
  | bl b => exact .base (.bl b)
  | int i => exact .base (.int i)
  | str x => exact .base (.str x)
  | lst h1 _ =>
    rcases h1 with (h1 | ⟨o, h1⟩) | ⟨o, _, _, h1, h2, _⟩
    · exact .base (.lst h1)
    · exact .base (.frz h1)
    · exact .kList h1 h2
  | tup h1 _ =>
    rcases h1 with (h1 | ⟨o, h1⟩) | ⟨o, _, _, h1, h2, _⟩
    · exact .base (.tup h1)
    · exact .fTuple h1
    · exact .kTuple h1 h2
  | dct h1 _ => exact .base (.dK h1)
def intD : PyData → Bool
  | .int _ => true
  | .bool _ => true
  | _ => false
def boolD : PyData → Bool
  | .bool _ => true
  | _ => false
def wholeD : PyData → Bool
  | .int _ => true
  | _ => false
theorem kit_int {K : PySem.W.Frag} (d : PyData) : PySem.W.kitOne K (.type (tyD d)) (.type "int") = some (intD d) := by
  cases d with
  | none => exact kit_ty (show kitB "NoneType" "int" = some false by decide +kernel)
  | bool _ => exact kit_ty (show kitB "bool" "int" = some true by decide +kernel)
  | int _ => exact kit_ty (show kitB "int" "int" = some true by decide +kernel)
  | str _ => exact kit_ty (show kitB "str" "int" = some false by decide +kernel)
  | list _ => exact kit_ty (show kitB "list" "int" = some false by decide +kernel)
  | tuple _ => exact kit_ty (show kitB "tuple" "int" = some false by decide +kernel)
  | dict _ => exact kit_ty (show kitB "dict" "int" = some false by decide +kernel)
theorem kit_bool {K : PySem.W.Frag} (d : PyData) : PySem.W.kitOne K (.type (tyD d)) (.type "bool") = some (boolD d) := by
  cases d with
  | none => exact kit_ty (show kitB "NoneType" "bool" = some false by decide +kernel)
  | bool _ => exact kit_ty (show kitB "bool" "bool" = some true by decide +kernel)
  | int _ => exact kit_ty (show kitB "int" "bool" = some false by decide +kernel)
  | str _ => exact kit_ty (show kitB "str" "bool" = some false by decide +kernel)
  | list _ => exact kit_ty (show kitB "list" "bool" = some false by decide +kernel)
  | tuple _ => exact kit_ty (show kitB "tuple" "bool" = some false by decide +kernel)
  | dict _ => exact kit_ty (show kitB "dict" "bool" = some false by decide +kernel)
/-- a ratio's top and bottom, as it is passed -/
def pair? : List PyData → Option (Int × Int)
  | [.int a, .int b] => if 0 < b then some (a, b) else none
  | _ => none
def partsD : PyData → Option (Int × Int)
  | .int i => some (i, 1)
  | .list ds => pair? ds
  | .tuple ds => pair? ds
  | _ => none
def seqD : PyData → Option (List PyData)
  | .list ds => some ds
  | .tuple ds => some ds
  | _ => none
theorem kit_seq {K : PySem.W.Frag} (d : PyData) : PySem.W.kitAny K (.type (tyD d)) [.type "tuple", .type "list"] = some (seqD d).isSome := by
  have two : ∀ {a b : Bool} {t : String}, kitB t "tuple" = some a → kitB t "list" = some b → PySem.W.kitAny K (.type t) [.type "tuple", .type "list"] = some (a || b) := fun {a b t} h1 h2 =>
    kitAny_cons (kit_ty h1) (fun e => by rw [e, Bool.false_or]; exact kitAny_cons (kit_ty h2) (fun e2 => by rw [e2]; exact kitAny_nil) (fun e2 => e2)) (fun e => by rw [e, Bool.true_or])
  cases d with
  | none => exact two (a := false) (b := false) (show kitB "NoneType" "tuple" = some false by decide +kernel) (show kitB "NoneType" "list" = some false by decide +kernel)
  | bool _ => exact two (a := false) (b := false) (show kitB "bool" "tuple" = some false by decide +kernel) (show kitB "bool" "list" = some false by decide +kernel)
  | int _ => exact two (a := false) (b := false) (show kitB "int" "tuple" = some false by decide +kernel) (show kitB "int" "list" = some false by decide +kernel)
  | str _ => exact two (a := false) (b := false) (show kitB "str" "tuple" = some false by decide +kernel) (show kitB "str" "list" = some false by decide +kernel)
  | list _ => exact two (a := false) (b := true) (show kitB "list" "tuple" = some false by decide +kernel) (show kitB "list" "list" = some true by decide +kernel)
  | tuple _ => exact two (a := true) (b := false) (show kitB "tuple" "tuple" = some true by decide +kernel) (show kitB "tuple" "list" = some false by decide +kernel)
  | dict _ => exact two (a := false) (b := false) (show kitB "dict" "tuple" = some false by decide +kernel) (show kitB "dict" "list" = some false by decide +kernel)
/-- built-in names that the text leaves alone, and gcd -/
structure Bk (mg : Str → Option Value) : Prop extends Bi mg where
  isinstance : mg "isinstance" = none
  bool : mg "bool" = none
  tuple : mg "tuple" = none
  abs : mg "abs" = none
  str : mg "str" = none
  gcd : mg "gcd" = some (.builtin "math.gcd")
/-- an error class with one __init__ of its own, as it is raised -/
structure Ex (P : Program) (w : World) (K : PySem.W.Frag) (mg : Str → Option Value) (base : Heap) (x : Str) (C : Addr) (names : List Str) where
  ox : OexC K C
  f : Addr
  fd : FuncData
  m : mg x = some (.ref C)
  iC : PySem.W.findIn K (.ref C) "__init__" = some (some (.ref f))
  tI : PySem.W.typeIn K (.ref f) = some (.type "function")
  b : Binds K fd ("self" :: names) []
  ok : FnOk P w K mg base CX0 1 f fd ("self" :: names) (spIni C names)
/-- a def of the text that may raise -/
structure Dx (P : Program) (w : World) (K : PySem.W.Frag) (mg : Str → Option Value) (base : Heap) (x : Str) (k : Nat) (ps : List Str) (sp : Sp) where
  f : Addr
  fd : FuncData
  m : mg x = some (.ref f)
  kp : PySem.W.keepIn K (.ref f) = true
  b : Binds K fd ps []
  ok : FnOk P w K mg base (L2.CX P w) k f fd ps sp
/-- what raise X(e, ..) leaves -/
theorem raise_end {C : Addr} {names : List Str} {H1 : Hp} {vs : List V} {W : XK} (hl : vs.length = names.length) (h : ∀ d H', Same H1 H' → H1 d = none → H' d = some (.xd (fl names vs)) → W (.ref C) (some d) H') :
    ∀ a, H1 a = none → spIni C names (.ref a :: (vs ++ [])) (upd H1 a (exo a C none)) (fun v H2 => v = .non ∧ ∃ (d : Addr) (fs : List (Str × V)), H2 a = some (exo a C (some d)) ∧ H2 d = some (exd d fs) ∧ H1 d = none ∧ W (.ref C) (some d) (upd (del H2 a) d (.xd fs))) (fun _ _ _ => False) := fun a na => by
  refine ⟨a, vs, by rw [List.append_nil], hl, upd_same, fun d H' nd ne ea ed k => ⟨rfl, d, fl names vs, ea, ed, ?_, ?_⟩⟩
  · rw [upd_ne ne] at nd
    exact nd
  · rw [upd_ne ne] at nd
    refine h d _ (fun b o e => ?_) nd upd_same
    have n1 := ne_of_none e na
    rw [upd_ne (ne_of_none e nd), del_ne n1]
    exact k b o n1 (by rw [upd_ne n1]; exact e)

def spWhole (K : PySem.W.Frag) : Sp := fun vs H Q _ => ∃ (v : V) (d : PyData), vs = [v] ∧ Dt K H v d ∧ Q (.bl (wholeD d)) H
def spIsRatio (K : PySem.W.Frag) : Sp := fun vs H Q _ => ∃ (v : V) (d : PyData), vs = [v] ∧ Dt K H v d ∧ ∀ H', Same H H' → Q (.bl (partsD d).isSome) H'
def big : Nat := 4000
def spLow : Sp := fun vs H Q _ => ∃ t b : Int, vs = [.int t, .int b] ∧ b ≠ 0 ∧ b.natAbs < 2 ^ big ∧ ∀ (p : Addr) (H' : Hp), Same H H' → H p = none → H' p = some (.tup [.int (low t b).1, .int (low t b).2]) → Q (.ref p) H'
/-- an error of BadNumber -/
def RaisesN (CN : Addr) (H : Hp) (wv v : V) (E : XK) : Prop := ∀ (d : Addr) (H' : Hp), Same H H' → H d = none → H' d = some (.xd (fl ["what", "number"] [wv, v])) → E (.ref CN) (some d) H'
theorem RaisesN.same {CN : Addr} {H H1 : Hp} {wv v : V} {E : XK} (s : Same H H1) (h : RaisesN CN H wv v E) : RaisesN CN H1 wv v E := fun d H' s' n e => h d H' (s.trans s') (s.free n) e
def spParts (K : PySem.W.Frag) (CN : Addr) : Sp := fun vs H Q E => ∃ (v wv : V) (d : PyData), vs = [v, wv] ∧ Dt K H v d ∧
  (∀ t b, partsD d = some (t, b) → ∀ (p : Addr) (H' : Hp), Same H H' → H' p = some (.tup [.int t, .int b]) → Q (.ref p) H') ∧ (partsD d = none → RaisesN CN H wv v E)
def spTold (K : PySem.W.Frag) (CN : Addr) : Sp := fun vs H Q E => ∃ (v wv : V) (d : PyData), vs = [v, wv] ∧ Dt K H v d ∧
  (∀ t b, partsD d = some (t, b) → b.natAbs < 2 ^ big ∧ ∀ (p : Addr) (H' : Hp), Same H H' → H' p = some (.tup [.int (low t b).1, .int (low t b).2]) → Q (.ref p) H') ∧ (partsD d = none → RaisesN CN H wv v E)
theorem pair_pos {ds : List PyData} {t b : Int} (h : pair? ds = some (t, b)) : ds = [.int t, .int b] ∧ 0 < b := by
  unfold pair? at h
  split at h
  · split at h
    · rename_i hb
      cases h
      exact ⟨rfl, hb⟩
    · cases h
  · cases h
theorem parts_pos {d : PyData} {t b : Int} (h : partsD d = some (t, b)) : 0 < b := by
  unfold partsD at h
  split at h
  · cases h
    decide
  · exact (pair_pos h).2
  · exact (pair_pos h).2
  · cases h
section
variable {P : Program} {w : World} {K : PySem.W.Frag} {mg : Str → Option Value} {base : Heap} {CN : Addr}
abbrev sIsWhole : Stmt := topS 8
abbrev sIsRatio : Stmt := topS 9
abbrev sLowest : Stmt := topS 11
abbrev sParts : Stmt := topS 12
abbrev sTold : Stmt := topS 13
theorem scIsWhole : FnScope ["value"] ["value"] (defScope sIsWhole) := ⟨rfl, rfl, rfl, by decide +kernel, rfl, by decide +kernel, by decide +kernel⟩
theorem ok_is_whole {f : Addr} {fd : FuncData} (F : Fun K "is_whole" "is_whole" sIsWhole f fd) (T : Bk mg) : FnOk P w K mg base CX0 1 f fd ["value"] (spWhole K) := by
  refine F.ok scIsWhole (fun vs H Q E h => ?_) (fun cdv A outer s H vs Q E hr h => ?_)
  · obtain ⟨v, d, rfl, _⟩ := h
    rfl
  · obtain ⟨v, d, rfl, hd, q⟩ := h
    refine ⟨_, (pss_one (ps_ret (pe_and (pe_callB call_isi (by rfl) T.isinstance (by decide +kernel) (pa_cons (pv 0) (pa_cons (pe_bltn (v := V.ty "int") (by rfl) T.int (by decide +kernel) rfl) pa_nil)))
      (pe_one (pe_not (pe_callB call_isi (by rfl) T.isinstance (by decide +kernel) (pa_cons (pv 0) (pa_cons (pe_bltn (v := V.ty "bool") (by rfl) T.bool (by decide +kernel) rfl) pa_nil)))))))), ?_⟩
    refine ⟨_, rfl, v, .ty "int", _, .type "int", _, rfl, .ty _, hd.ty, kit_int d, _, rfl, ?_⟩
    cases hi : intD d with
    | false =>
      refine iteF ?_
      have e : wholeD d = false := by cases d <;> first | rfl | (exact absurd hi (fun z => by cases z))
      rw [e] at q
      exact q
    | true =>
      refine iteT ?_
      refine ⟨_, rfl, v, .ty "bool", _, .type "bool", _, rfl, .ty _, hd.ty, kit_bool d, _, rfl, ?_⟩
      have e : wholeD d = !boolD d := by cases d <;> first | rfl | (exact absurd hi (fun z => by cases z))
      rw [e] at q
      exact q
theorem dts2 {H : Hp} {vs : List V} {a b : PyData} (h : Dts K H vs [a, b]) : ∃ x y, vs = [x, y] ∧ Dt K H x a ∧ Dt K H y b := by
  cases h with
  | cons h1 h2 =>
    cases h2 with
    | cons h3 h4 =>
      cases h4
      exact ⟨_, _, rfl, h1, h3⟩
/-- an item of a list or tuple -/
theorem seq_at {H : Hp} {a : Addr} {xs : List V} {Q : V → Hp → Prop} {z : Int} {x : V} (h : SqL K H a xs ∨ SqT K H a xs) (e : atI xs z = some x) (q : Q x H) : rIx K (.ref a) (.int z) H Q := by
  rcases h with h | h
  · exact .inl ⟨a, xs, z, x, rfl, rfl, h, e, q⟩
  · exact .inr (.inl ⟨a, xs, z, x, rfl, rfl, h, e, q⟩)
theorem Dt.seq {H : Hp} {v : V} {d : PyData} {ds : List PyData} (h : Dt K H v d) (e : seqD d = some ds) : ∃ a vs, v = .ref a ∧ (SqL K H a vs ∨ SqT K H a vs) ∧ Dts K H vs ds := by
  cases h with
  | lst h1 h2 =>
    cases e
    exact ⟨_, _, rfl, .inl h1, h2⟩
  | tup h1 h2 =>
    cases e
    exact ⟨_, _, rfl, .inr h1, h2⟩
  | _ => cases e
theorem seq_same {H H' : Hp} {a : Addr} {vs : List V} (s : Same H H') (h : SqL K H a vs ∨ SqT K H a vs) : SqL K H' a vs ∨ SqT K H' a vs := h.imp (same_sqL s) (same_sqT s)
theorem scIsRatio : FnScope ["value"] ["value"] (defScope sIsRatio) := ⟨rfl, rfl, rfl, by decide +kernel, rfl, by decide +kernel, by decide +kernel⟩
theorem ok_is_ratio {f : Addr} {fd : FuncData} (F : Fun K "is_ratio" "is_ratio" sIsRatio f fd) (T : Bk mg) (Gw : Df P w K mg base "is_whole" 1 ["value"] (spWhole K)) : FnOk P w K mg base CX0 2 f fd ["value"] (spIsRatio K) := by
  refine F.ok scIsRatio (fun vs H Q E h => ?_) (fun cdv A outer s H vs Q E hr h => ?_)
  · obtain ⟨v, d, rfl, _⟩ := h
    rfl
  · obtain ⟨v, d, rfl, hd, q⟩ := h
    refine ⟨_, (pss_cons (ps_if (pt_val (pe_callB call_isiT (by rfl) T.isinstance (by decide +kernel) (pa_cons (pv 0) (pa_cons (pe_tup (pa_cons (pe_bltn (v := V.ty "tuple") (by rfl) T.tuple (by decide +kernel) rfl) (pa_cons (pe_bltn (v := V.ty "list") (by rfl) T.list (by decide +kernel) rfl) pa_nil))) pa_nil))))
      (pss_one (ps_ret (pe_and (pe_cmpR op_eq (pe_callB call_len_seq (by rfl) T.len (by decide +kernel) (pa_cons (pv 0) pa_nil)) pe_int (nomark _)) (pe_and (pe_call Gw.ok hr rfl Gw.m Gw.kp Gw.b .nil pass0 (pa_cons (pe_ix ix_seq (pv 0) pe_int (fun _ _ => rfl)) pa_nil)) (pe_and (pe_call Gw.ok hr rfl Gw.m Gw.kp Gw.b .nil pass0 (pa_cons (pe_ix ix_seq (pv 0) pe_int (fun _ _ => rfl)) pa_nil)) (pe_one (pe_cmpR op_gt (pe_ix ix_seq (pv 0) pe_int (fun _ _ => rfl)) pe_int (nomark _))))))))
      pss_nil)
      (pss_one (ps_ret (pe_call Gw.ok hr rfl Gw.m Gw.kp Gw.b .nil pass0 (pa_cons (pv 0) pa_nil))))), ?_⟩
    refine ⟨_, rfl, (by show 2 ≤ sizeLine; decide), fun tp ntp => ?_⟩
    have s1 : Same H (upd H tp (HO.tup [V.ty "tuple", V.ty "list"])) := same_upd ntp
    have e1 : upd H tp (HO.tup [V.ty "tuple", V.ty "list"]) tp = some (HO.tup [V.ty "tuple", V.ty "list"]) := upd_same
    generalize upd H tp (HO.tup [V.ty "tuple", V.ty "list"]) = H1 at s1 e1 ⊢
    have hd1 := hd.mono s1
    have q1 := q H1 s1
    refine ⟨v, tp, _, _, [.type "tuple", .type "list"], _, rfl, e1, .cons (.ty _) (.cons (.ty _) .nil), hd1.ty, kit_seq d, _, rfl, ?_⟩
    cases hs : seqD d with
    | none =>
      refine iteF ?_
      refine ⟨_, rfl, v, d, rfl, hd1, ?_⟩
      have e : (partsD d).isSome = wholeD d := by cases d <;> first | rfl | cases hs
      rw [e] at q1
      exact q1
    | some ds =>
      refine iteT ?_
      have ep : partsD d = pair? ds := by cases d <;> first | (cases hs; rfl) | cases hs
      rw [ep] at q1
      obtain ⟨a, vs, rfl, hsq, hds⟩ := hd1.seq hs
      refine ⟨_, rfl, a, vs, rfl, hsq, rfl, _, rfl, ?_⟩
      by_cases hl : vs.length = 2
      · rw [decide_eq_true (by rw [hl]; rfl)]
        refine iteT ?_
        have hl2 : ds.length = 2 := by rw [← hds.len]; exact hl
        match ds, hl2 with
        | [d0, d1], _ =>
        obtain ⟨x, y, rfl, hx, hy⟩ := dts2 hds
        refine ⟨_, rfl, seq_at hsq (at_of (j := 0) rfl rfl) ?_⟩
        refine ⟨x, d0, rfl, hx, _, rfl, ?_⟩
        cases h0 : wholeD d0 with
        | false =>
          refine iteF ?_
          have e : pair? [d0, d1] = none := by cases d0 <;> first | rfl | (cases h0)
          rw [e] at q1
          exact q1
        | true =>
          refine iteT ?_
          refine ⟨_, rfl, seq_at hsq (at_of (j := 1) rfl rfl) ?_⟩
          refine ⟨y, d1, rfl, hy, _, rfl, ?_⟩
          cases h1 : wholeD d1 with
          | false =>
            refine iteF ?_
            have e : pair? [d0, d1] = none := by cases d0 <;> cases d1 <;> first | rfl | (cases h1) | (cases h0)
            rw [e] at q1
            exact q1
          | true =>
            refine iteT ?_
            obtain ⟨i, rfl⟩ : ∃ i, d0 = .int i := by cases d0 <;> first | exact ⟨_, rfl⟩ | cases h0
            obtain ⟨j, rfl⟩ : ∃ j, d1 = .int j := by cases d1 <;> first | exact ⟨_, rfl⟩ | cases h1
            cases hy
            refine ⟨_, rfl, seq_at hsq (at_of (j := 1) rfl rfl) ?_⟩
            refine ⟨_, _, rfl, rfl, ?_⟩
            have e : (pair? [PyData.int i, PyData.int j]).isSome = decide (0 < j) := by
              show (if 0 < j then some (i, j) else none).isSome = decide (0 < j)
              by_cases hj : 0 < j
              · rw [if_pos hj, decide_eq_true hj]; rfl
              · rw [if_neg hj, decide_eq_false hj]; rfl
            rw [e] at q1
            exact q1
      · rw [decide_eq_false (fun z => hl (by have z2 := V.int.inj z; omega))]
        refine iteF ?_
        have e : pair? ds = none := by
          cases hp : pair? ds with
          | none => rfl
          | some tb =>
            obtain ⟨t, b⟩ := tb
            have z := (pair_pos hp).1
            rw [hds.len, z] at hl
            exact absurd rfl hl
        rw [e] at q1
        exact q1
theorem scLowest : FnScope ["top", "bottom", "shared"] ["top", "bottom"] (defScope sLowest) := ⟨rfl, rfl, rfl, by decide +kernel, rfl, by decide +kernel, by decide +kernel⟩
theorem log_of {z : Int} {k : Nat} (hk : 0 < k) (h : z.natAbs < 2 ^ k) : z.natAbs.log2 < k := PySem.Flt.log2_lt_of hk h
theorem sg_cdiv {t b x : Int} (h : b ≠ 0) (hb : b.natAbs < 2 ^ big) : CDivZ x (sg t b) :=
  ⟨sg_ne h, Nat.lt_trans (log_of (k := big) (by decide) (Nat.lt_of_le_of_lt (sg_size h) hb)) (by decide)⟩
theorem ok_lowest {f : Addr} {fd : FuncData} (F : Fun K "lowest" "lowest" sLowest f fd) (T : Bk mg) : FnOk P w K mg base CX0 1 f fd ["top", "bottom"] spLow := by
  refine F.ok scLowest (fun vs H Q E h => ?_) (fun cdv A outer s H vs Q E hr h => ?_)
  · obtain ⟨t, b, rfl, _⟩ := h
    rfl
  · obtain ⟨t, b, rfl, hb, hz, q⟩ := h
    refine ⟨_, (pss_cons (ps_set (i := 2) scLowest.nd rfl (Or.inl rfl) (pe_callBfun cr_gcd (by rfl) T.gcd (pa_cons (pv 0) (pa_cons (pv 1) pa_nil))))
      (C8.pss_cut (ps_if (pt_cmpR op_lt (pv 1) pe_int (nomark _)) (pss_one (ps_set (i := 2) scLowest.nd rfl (Or.inl rfl) (pe_un un_neg (pv 2)))) pss_nil)
      (pss_one (ps_ret (pe_tup (pa_cons (pe_op op_fdivZ (pv 0) (pv 2)) (pa_cons (pe_op op_fdivZ (pv 1) (pv 2)) pa_nil))))))), ?_⟩
    refine ⟨_, rfl, _, rfl, t, b, rfl, fun σ H2 => H2 = H ∧ σ = [some (.int t), some (.int b), some (.int (sg t b))], ?_, ?_⟩
    · refine ⟨_, rfl, _, _, rfl, rfl, _, rfl, ?_⟩
      refine ite2 (fun hlt => ?_) (fun hlt => ?_)
      · have h2 : b < 0 := of_decide_eq_true hlt
        refine ⟨_, rfl, _, rfl, rfl, ?_⟩
        unfold sg
        rw [if_pos h2]
        rfl
      · have h2 : ¬ b < 0 := fun z => hlt (decide_eq_true z)
        refine ⟨rfl, ?_⟩
        unfold sg
        rw [if_neg h2]
        rfl
    · rintro σ H2 ⟨rfl, rfl⟩
      refine ⟨_, rfl, _, rfl, _, _, rfl, rfl, sg_cdiv hb hz, _, rfl, _, rfl, _, _, rfl, rfl, sg_cdiv hb hz, (by show 2 ≤ sizeLine; decide), fun p np => ?_⟩
      exact q p _ (same_upd np) np upd_same
theorem scParts : FnScope ["value", "what"] ["value", "what"] (defScope sParts) := ⟨rfl, rfl, rfl, by decide +kernel, rfl, by decide +kernel, by decide +kernel⟩
theorem ok_parts {f : Addr} {fd : FuncData} (F : Fun K "parts_of" "parts_of" sParts f fd) (T : Bk mg) (Gr : Df P w K mg base "is_ratio" 2 ["value"] (spIsRatio K)) (N : Ex P w K mg base "BadNumber" CN ["what", "number"]) :
    FnOk P w K mg base (L2.CX P w) 3 f fd ["value", "what"] (spParts K CN) := by
  refine F.okX scParts (fun vs H Q E h => ?_) (fun cdv A outer s H vs Q E hr h => ?_)
  · obtain ⟨v, wv, d, rfl, _⟩ := h
    rfl
  · obtain ⟨v, wv, d, rfl, hd, q, e⟩ := h
    refine ⟨_, (pss_cons (ps_if (pt_not (pt_val (pe_call Gr.ok hr rfl Gr.m Gr.kp Gr.b .nil pass0 (pa_cons (pv 0) pa_nil))))
        (pss_one (ps_raise rfl (takes_of rfl rfl rfl rfl) (pmk_oex N.ox N.iC N.tI N.ok hr N.b .nil pass0 (by rfl) N.m (pa_cons (pv 1) (pa_cons (pv 0) pa_nil)))))
        pss_nil)
      (pss_cons (ps_if (pt_val (pe_callB call_isi (by rfl) T.isinstance (by decide +kernel) (pa_cons (pv 0) (pa_cons (pe_bltn (v := V.ty "int") (by rfl) T.int (by decide +kernel) rfl) pa_nil))))
        (pss_one (ps_ret (pe_tup (pa_cons (pv 0) (pa_cons pe_int pa_nil)))))
        pss_nil)
      (pss_one (ps_ret (pe_tup (pa_cons (pe_ix ix_seq (pv 0) pe_int (fun _ _ => rfl)) (pa_cons (pe_ix ix_seq (pv 0) pe_int (fun _ _ => rfl)) pa_nil))))))), ?_⟩
    refine ⟨_, rfl, v, d, rfl, hd, fun H1 s1 => ⟨_, rfl, ?_⟩⟩
    have hd1 := hd.mono s1
    cases hp : partsD d with
    | none =>
      refine iteT ?_
      refine ⟨_, rfl, _, rfl, (by show 2 ≤ 1000; decide), ?_⟩
      exact raise_end rfl fun dd H' s2 n e2 => (e hp).same s1 dd H' s2 n e2
    | some tb =>
      obtain ⟨t, b⟩ := tb
      refine iteF ?_
      refine ⟨_, rfl, v, .ty "int", _, .type "int", _, rfl, .ty _, hd1.ty, kit_int d, _, rfl, ?_⟩
      cases hs : seqD d with
      | none =>
        obtain ⟨i, rfl⟩ : ∃ i, d = .int i := by cases d <;> first | exact ⟨_, rfl⟩ | cases hp | cases hs
        cases hp
        cases hd1
        refine iteT ?_
        refine ⟨_, rfl, (by show 2 ≤ sizeLine; decide), fun p np => ?_⟩
        exact q _ _ rfl p _ (s1.trans (same_upd np)) upd_same
      | some ds =>
        have hi : intD d = false := by cases d <;> first | rfl | cases hs
        rw [hi]
        refine iteF ?_
        have ep : partsD d = pair? ds := by cases d <;> first | (cases hs; rfl) | cases hs
        have hp2 := hp
        rw [ep] at hp2
        obtain ⟨rfl, hb⟩ := pair_pos hp2
        obtain ⟨a, vs, rfl, hsq, hds⟩ := hd1.seq hs
        obtain ⟨x, y, rfl, hx, hy⟩ := dts2 hds
        cases hx
        cases hy
        refine ⟨_, rfl, seq_at hsq (at_of (j := 0) rfl rfl) ?_⟩
        refine ⟨_, rfl, seq_at hsq (at_of (j := 1) rfl rfl) ?_⟩
        refine ⟨(by show 2 ≤ sizeLine; decide), fun p np => ?_⟩
        exact q _ _ hp p _ (s1.trans (same_upd np)) upd_same
theorem scTold : FnScope ["value", "what", "top", "bottom"] ["value", "what"] (defScope sTold) := ⟨rfl, rfl, rfl, by decide +kernel, rfl, by decide +kernel, by decide +kernel⟩
theorem ok_told {f : Addr} {fd : FuncData} (F : Fun K "told" "told" sTold f fd) (Gp : Dx P w K mg base "parts_of" 3 ["value", "what"] (spParts K CN)) (Gl : Df P w K mg base "lowest" 1 ["top", "bottom"] spLow) :
    FnOk P w K mg base (L2.CX P w) 4 f fd ["value", "what"] (spTold K CN) := by
  refine F.okX scTold (fun vs H Q E h => ?_) (fun cdv A outer s H vs Q E hr h => ?_)
  · obtain ⟨v, wv, d, rfl, _⟩ := h
    rfl
  · obtain ⟨v, wv, d, rfl, hd, q, e⟩ := h
    refine ⟨_, (pss_cons (ps_asg (pe_call Gp.ok hr rfl Gp.m Gp.kp Gp.b .nil (E := E) (passes_call (takes_of rfl rfl rfl rfl) (fun _ _ _ _ h => h)) (pa_cons (pv 0) (pa_cons (pv 1) pa_nil))) (pg_tup (by rfl) (pgs_cons (pg_name (i := 2) scTold.nd rfl (Or.inl rfl)) (pgs_cons (pg_name (i := 3) scTold.nd rfl (Or.inl rfl)) pgs_nil))))
      (pss_one (ps_ret (pe_call Gl.ok (hr.mono (by decide)) rfl Gl.m Gl.kp Gl.b .nil pass0 (pa_cons (pv 2) (pa_cons (pv 3) pa_nil)))))), ?_⟩
    refine ⟨_, rfl, _, rfl, v, wv, d, rfl, hd, fun t b hp p H1 s1 e1 => ?_, e⟩
    obtain ⟨hz, q⟩ := q t b hp
    have hb := parts_pos hp
    refine ⟨p, _, rfl, SqT.of e1, rfl, _, _, rfl, _, _, rfl, rfl, ?_⟩
    refine ⟨_, rfl, _, rfl, t, b, rfl, by omega, hz, fun p2 H2 s2 n2 e2 => ?_⟩
    exact q p2 H2 (s1.trans s2) e2
end

end Vf

set_option maxRecDepth 100000
set_option maxHeartbeats 8000000
namespace Vf
open PySem PySem.Spec PyProof.Rows L2
/-! ### two ratios -/
/-- below 2 ^ 200 in size -/
def Sz (z : Int) : Prop := z.natAbs < 2 ^ 200
theorem sz_mulW {x y : Int} (h1 : Sz x) (h2 : Sz y) : CMulW x y := wide_mul h1 h2 (by decide) (by decide) (by decide)
theorem sz_mul {x y : Int} (h1 : Sz x) (h2 : Sz y) : (x * y).natAbs < 2 ^ 400 := wide_lt h1 h2
/-- what a def of two ratios promises: of the right ones ok, of the first wrong one the error -/
def spTwo (K : PySem.W.Frag) (CN : Addr) (ok : V → Int → Int → Int → Int → Hp → VK → XK → Prop) : Sp := fun vs H Q E => ∃ (v u : V) (d e : PyData), vs = [v, u] ∧ Dt K H v d ∧ Dt K H u e ∧
  (∀ t b x c, partsD d = some (t, b) → partsD e = some (x, c) → Sz t ∧ Sz b ∧ Sz x ∧ Sz c ∧ ok u t b x c H Q E) ∧
  (partsD d = none → RaisesN CN H (.str "ratio") v E) ∧ ((partsD d).isSome = true → partsD e = none → RaisesN CN H (.str "ratio") u E)
def okLow (g : Int → Int → Int → Int → Int × Int) : V → Int → Int → Int → Int → Hp → VK → XK → Prop := fun _ t b x c H Q _ =>
  ∀ (p : Addr) (H' : Hp), Same H H' → H' p = some (.tup [.int (low (g t b x c).1 (g t b x c).2).1, .int (low (g t b x c).1 (g t b x c).2).2]) → Q (.ref p) H'
def gPlus (t b x c : Int) : Int × Int := (t * c + x * b, b * c)
def gMinus (t b x c : Int) : Int × Int := (t * c - x * b, b * c)
def gTimes (t b x c : Int) : Int × Int := (t * x, b * c)
def gShare (t b x c : Int) : Int × Int := (t * c, b * x)
def okShare (CN : Addr) : V → Int → Int → Int → Int → Hp → VK → XK → Prop := fun u t b x c H Q E => (x = 0 → RaisesN CN H (.str "divisor") u E) ∧ (x ≠ 0 → okLow gShare u t b x c H Q E)
def okLower : V → Int → Int → Int → Int → Hp → VK → XK → Prop := fun _ t b x c H Q _ => ∀ H', Same H H' → Q (.bl (decide (t * c < x * b))) H'
section
variable {P : Program} {w : World} {K : PySem.W.Frag} {mg : Str → Option Value} {base : Heap} {CN : Addr}
abbrev sPlus : Stmt := topS 14
theorem scPlus : FnScope ["one", "other", "top", "bottom", "other_top", "other_bottom"] ["one", "other"] (defScope sPlus) := ⟨rfl, rfl, rfl, by decide +kernel, rfl, by decide +kernel, by decide +kernel⟩
theorem ok_plus {f : Addr} {fd : FuncData} (F : Fun K "plus" "plus" sPlus f fd) (Gp : Dx P w K mg base "parts_of" 3 ["value", "what"] (spParts K CN)) (Gl : Df P w K mg base "lowest" 1 ["top", "bottom"] spLow) (N : Ex P w K mg base "BadNumber" CN ["what", "number"]) :
    FnOk P w K mg base (L2.CX P w) 4 f fd ["one", "other"] (spTwo K CN (okLow gPlus)) := by
  refine F.okX scPlus (fun vs H Q E h => ?_) (fun cdv A outer s H vs Q E hr h => ?_)
  · obtain ⟨v, u, d, e, rfl, _⟩ := h
    rfl
  · obtain ⟨v, u, d, e, rfl, hd, he', q, r1, r2⟩ := h
    refine ⟨_, (pss_cons (ps_asg (pe_call Gp.ok hr rfl Gp.m Gp.kp Gp.b .nil (E := E) (passes_call (takes_of rfl rfl rfl rfl) (fun _ _ _ _ h => h)) (pa_cons (pv 0) (pa_cons pe_str pa_nil))) (pg_tup (by rfl) (pgs_cons (pg_name (i := 2) scPlus.nd rfl (Or.inl rfl)) (pgs_cons (pg_name (i := 3) scPlus.nd rfl (Or.inl rfl)) pgs_nil))))
      (pss_cons (ps_asg (pe_call Gp.ok hr rfl Gp.m Gp.kp Gp.b .nil (E := E) (passes_call (takes_of rfl rfl rfl rfl) (fun _ _ _ _ h => h)) (pa_cons (pv 1) (pa_cons pe_str pa_nil))) (pg_tup (by rfl) (pgs_cons (pg_name (i := 4) scPlus.nd rfl (Or.inl rfl)) (pgs_cons (pg_name (i := 5) scPlus.nd rfl (Or.inl rfl)) pgs_nil))))
      (pss_one (ps_ret (pe_call Gl.ok (hr.mono (by decide)) rfl Gl.m Gl.kp Gl.b .nil pass0 (pa_cons (pe_op op_add (pe_op op_mulW (pv 2) (pv 5)) (pe_op op_mulW (pv 4) (pv 3))) (pa_cons (pe_op op_mulW (pv 3) (pv 5)) pa_nil))))))), ?_⟩
    refine ⟨_, rfl, v, .str "ratio", d, rfl, hd, fun t b hp p H1 s1 e1 => ?_, r1⟩
    have r2 := r2 (by rw [hp]; rfl)
    have q := fun x c he => q t b x c hp he
    refine ⟨p, _, rfl, SqT.of e1, rfl, _, _, rfl, _, _, rfl, rfl, ?_⟩
    refine ⟨_, rfl, u, .str "ratio", e, rfl, he'.mono s1, fun x c he p2 H2 s2 e2 => ?_, fun z => (r2 z).same s1⟩
    refine ⟨p2, _, rfl, SqT.of e2, rfl, _, _, rfl, _, _, rfl, rfl, ?_⟩
    obtain ⟨ht, hb, hx, hc, q⟩ := q x c he
    have s12 := s1.trans s2
    refine ⟨_, rfl, _, rfl, _, _, rfl, rfl, sz_mulW ht hc, _, rfl, _, rfl, _, _, rfl, rfl, sz_mulW hx hb, _, _, rfl, rfl, _, rfl, _, rfl, _, _, rfl, rfl, sz_mulW hb hc, _, _, rfl, by have := parts_pos hp; have := parts_pos he; exact Int.ne_of_gt (Int.mul_pos ‹_› ‹_›), Nat.lt_trans (sz_mul hb hc) (by decide +kernel), fun p H4 s4 n4 e4 => ?_⟩
    exact q p H4 (s12.trans s4) e4
abbrev sTimes : Stmt := topS 15
theorem scTimes : FnScope ["one", "other", "top", "bottom", "other_top", "other_bottom"] ["one", "other"] (defScope sTimes) := ⟨rfl, rfl, rfl, by decide +kernel, rfl, by decide +kernel, by decide +kernel⟩
theorem ok_times {f : Addr} {fd : FuncData} (F : Fun K "times" "times" sTimes f fd) (Gp : Dx P w K mg base "parts_of" 3 ["value", "what"] (spParts K CN)) (Gl : Df P w K mg base "lowest" 1 ["top", "bottom"] spLow) (N : Ex P w K mg base "BadNumber" CN ["what", "number"]) :
    FnOk P w K mg base (L2.CX P w) 4 f fd ["one", "other"] (spTwo K CN (okLow gTimes)) := by
  refine F.okX scTimes (fun vs H Q E h => ?_) (fun cdv A outer s H vs Q E hr h => ?_)
  · obtain ⟨v, u, d, e, rfl, _⟩ := h
    rfl
  · obtain ⟨v, u, d, e, rfl, hd, he', q, r1, r2⟩ := h
    refine ⟨_, (pss_cons (ps_asg (pe_call Gp.ok hr rfl Gp.m Gp.kp Gp.b .nil (E := E) (passes_call (takes_of rfl rfl rfl rfl) (fun _ _ _ _ h => h)) (pa_cons (pv 0) (pa_cons pe_str pa_nil))) (pg_tup (by rfl) (pgs_cons (pg_name (i := 2) scTimes.nd rfl (Or.inl rfl)) (pgs_cons (pg_name (i := 3) scTimes.nd rfl (Or.inl rfl)) pgs_nil))))
      (pss_cons (ps_asg (pe_call Gp.ok hr rfl Gp.m Gp.kp Gp.b .nil (E := E) (passes_call (takes_of rfl rfl rfl rfl) (fun _ _ _ _ h => h)) (pa_cons (pv 1) (pa_cons pe_str pa_nil))) (pg_tup (by rfl) (pgs_cons (pg_name (i := 4) scTimes.nd rfl (Or.inl rfl)) (pgs_cons (pg_name (i := 5) scTimes.nd rfl (Or.inl rfl)) pgs_nil))))
      (pss_one (ps_ret (pe_call Gl.ok (hr.mono (by decide)) rfl Gl.m Gl.kp Gl.b .nil pass0 (pa_cons (pe_op op_mulW (pv 2) (pv 4)) (pa_cons (pe_op op_mulW (pv 3) (pv 5)) pa_nil))))))), ?_⟩
    refine ⟨_, rfl, v, .str "ratio", d, rfl, hd, fun t b hp p H1 s1 e1 => ?_, r1⟩
    have r2 := r2 (by rw [hp]; rfl)
    have q := fun x c he => q t b x c hp he
    refine ⟨p, _, rfl, SqT.of e1, rfl, _, _, rfl, _, _, rfl, rfl, ?_⟩
    refine ⟨_, rfl, u, .str "ratio", e, rfl, he'.mono s1, fun x c he p2 H2 s2 e2 => ?_, fun z => (r2 z).same s1⟩
    refine ⟨p2, _, rfl, SqT.of e2, rfl, _, _, rfl, _, _, rfl, rfl, ?_⟩
    obtain ⟨ht, hb, hx, hc, q⟩ := q x c he
    have s12 := s1.trans s2
    refine ⟨_, rfl, _, rfl, _, _, rfl, rfl, sz_mulW ht hx, _, rfl, _, rfl, _, _, rfl, rfl, sz_mulW hb hc, _, _, rfl, by have := parts_pos hp; have := parts_pos he; exact Int.ne_of_gt (Int.mul_pos ‹_› ‹_›), Nat.lt_trans (sz_mul hb hc) (by decide +kernel), fun p H4 s4 n4 e4 => ?_⟩
    exact q p H4 (s12.trans s4) e4
abbrev sShare : Stmt := topS 16
theorem scShare : FnScope ["one", "other", "top", "bottom", "other_top", "other_bottom"] ["one", "other"] (defScope sShare) := ⟨rfl, rfl, rfl, by decide +kernel, rfl, by decide +kernel, by decide +kernel⟩
theorem ok_share {f : Addr} {fd : FuncData} (F : Fun K "share" "share" sShare f fd) (Gp : Dx P w K mg base "parts_of" 3 ["value", "what"] (spParts K CN)) (Gl : Df P w K mg base "lowest" 1 ["top", "bottom"] spLow) (N : Ex P w K mg base "BadNumber" CN ["what", "number"]) :
    FnOk P w K mg base (L2.CX P w) 4 f fd ["one", "other"] (spTwo K CN (okShare CN)) := by
  refine F.okX scShare (fun vs H Q E h => ?_) (fun cdv A outer s H vs Q E hr h => ?_)
  · obtain ⟨v, u, d, e, rfl, _⟩ := h
    rfl
  · obtain ⟨v, u, d, e, rfl, hd, he', q, r1, r2⟩ := h
    refine ⟨_, (pss_cons (ps_asg (pe_call Gp.ok hr rfl Gp.m Gp.kp Gp.b .nil (E := E) (passes_call (takes_of rfl rfl rfl rfl) (fun _ _ _ _ h => h)) (pa_cons (pv 0) (pa_cons pe_str pa_nil))) (pg_tup (by rfl) (pgs_cons (pg_name (i := 2) scShare.nd rfl (Or.inl rfl)) (pgs_cons (pg_name (i := 3) scShare.nd rfl (Or.inl rfl)) pgs_nil))))
      (pss_cons (ps_asg (pe_call Gp.ok hr rfl Gp.m Gp.kp Gp.b .nil (E := E) (passes_call (takes_of rfl rfl rfl rfl) (fun _ _ _ _ h => h)) (pa_cons (pv 1) (pa_cons pe_str pa_nil))) (pg_tup (by rfl) (pgs_cons (pg_name (i := 4) scShare.nd rfl (Or.inl rfl)) (pgs_cons (pg_name (i := 5) scShare.nd rfl (Or.inl rfl)) pgs_nil))))
      (pss_cons (ps_if (pt_cmpR op_eq (pv 4) pe_int (nomark _))
        (pss_one (ps_raise rfl (takes_of rfl rfl rfl rfl) (pmk_oex N.ox N.iC N.tI N.ok (hr.mono (by decide)) N.b .nil pass0 (by rfl) N.m (pa_cons pe_str (pa_cons (pv 1) pa_nil)))))
        pss_nil)
      (pss_one (ps_ret (pe_call Gl.ok (hr.mono (by decide)) rfl Gl.m Gl.kp Gl.b .nil pass0 (pa_cons (pe_op op_mulW (pv 2) (pv 5)) (pa_cons (pe_op op_mulW (pv 3) (pv 4)) pa_nil)))))))), ?_⟩
    refine ⟨_, rfl, v, .str "ratio", d, rfl, hd, fun t b hp p H1 s1 e1 => ?_, r1⟩
    have r2 := r2 (by rw [hp]; rfl)
    have q := fun x c he => q t b x c hp he
    refine ⟨p, _, rfl, SqT.of e1, rfl, _, _, rfl, _, _, rfl, rfl, ?_⟩
    refine ⟨_, rfl, u, .str "ratio", e, rfl, he'.mono s1, fun x c he p2 H2 s2 e2 => ?_, fun z => (r2 z).same s1⟩
    refine ⟨p2, _, rfl, SqT.of e2, rfl, _, _, rfl, _, _, rfl, rfl, ?_⟩
    obtain ⟨ht, hb, hx, hc, q⟩ := q x c he
    have s12 := s1.trans s2
    refine ⟨_, rfl, rfl, _, rfl, ?_⟩
    by_cases hx0 : x = 0
    · rw [decide_eq_true (by rw [hx0])]
      refine iteT ?_
      refine ⟨_, rfl, (by show 2 ≤ 1000; decide), ?_⟩
      exact raise_end rfl fun dd H4 s4 n4 e4 => (q.1 hx0).same s12 dd H4 s4 n4 e4
    · rw [decide_eq_false (fun z => hx0 (by have z2 := V.int.inj z; exact z2))]
      refine iteF ?_
      have hb0 := parts_pos hp
      refine ⟨_, rfl, _, rfl, _, _, rfl, rfl, sz_mulW ht hc, _, rfl, _, rfl, _, _, rfl, rfl, sz_mulW hb hx, _, _, rfl, Int.mul_ne_zero (by omega) hx0, Nat.lt_trans (sz_mul hb hx) (by decide +kernel), fun p H4 s4 n4 e4 => ?_⟩
      exact q.2 hx0 p H4 (s12.trans s4) e4
abbrev sLower : Stmt := topS 17
theorem scLower : FnScope ["one", "other", "top", "bottom", "other_top", "other_bottom"] ["one", "other"] (defScope sLower) := ⟨rfl, rfl, rfl, by decide +kernel, rfl, by decide +kernel, by decide +kernel⟩
theorem ok_lower {f : Addr} {fd : FuncData} (F : Fun K "lower" "lower" sLower f fd) (Gp : Dx P w K mg base "parts_of" 3 ["value", "what"] (spParts K CN)) (Gl : Df P w K mg base "lowest" 1 ["top", "bottom"] spLow) (N : Ex P w K mg base "BadNumber" CN ["what", "number"]) :
    FnOk P w K mg base (L2.CX P w) 4 f fd ["one", "other"] (spTwo K CN okLower) := by
  refine F.okX scLower (fun vs H Q E h => ?_) (fun cdv A outer s H vs Q E hr h => ?_)
  · obtain ⟨v, u, d, e, rfl, _⟩ := h
    rfl
  · obtain ⟨v, u, d, e, rfl, hd, he', q, r1, r2⟩ := h
    refine ⟨_, (pss_cons (ps_asg (pe_call Gp.ok hr rfl Gp.m Gp.kp Gp.b .nil (E := E) (passes_call (takes_of rfl rfl rfl rfl) (fun _ _ _ _ h => h)) (pa_cons (pv 0) (pa_cons pe_str pa_nil))) (pg_tup (by rfl) (pgs_cons (pg_name (i := 2) scLower.nd rfl (Or.inl rfl)) (pgs_cons (pg_name (i := 3) scLower.nd rfl (Or.inl rfl)) pgs_nil))))
      (pss_cons (ps_asg (pe_call Gp.ok hr rfl Gp.m Gp.kp Gp.b .nil (E := E) (passes_call (takes_of rfl rfl rfl rfl) (fun _ _ _ _ h => h)) (pa_cons (pv 1) (pa_cons pe_str pa_nil))) (pg_tup (by rfl) (pgs_cons (pg_name (i := 4) scLower.nd rfl (Or.inl rfl)) (pgs_cons (pg_name (i := 5) scLower.nd rfl (Or.inl rfl)) pgs_nil))))
      (pss_one (ps_ret (pe_cmpR op_lt (pe_op op_mulW (pv 2) (pv 5)) (pe_op op_mulW (pv 4) (pv 3)) (nomark _)))))), ?_⟩
    refine ⟨_, rfl, v, .str "ratio", d, rfl, hd, fun t b hp p H1 s1 e1 => ?_, r1⟩
    have r2 := r2 (by rw [hp]; rfl)
    have q := fun x c he => q t b x c hp he
    refine ⟨p, _, rfl, SqT.of e1, rfl, _, _, rfl, _, _, rfl, rfl, ?_⟩
    refine ⟨_, rfl, u, .str "ratio", e, rfl, he'.mono s1, fun x c he p2 H2 s2 e2 => ?_, fun z => (r2 z).same s1⟩
    refine ⟨p2, _, rfl, SqT.of e2, rfl, _, _, rfl, _, _, rfl, rfl, ?_⟩
    obtain ⟨ht, hb, hx, hc, q⟩ := q x c he
    have s12 := s1.trans s2
    refine ⟨_, rfl, _, rfl, _, _, rfl, rfl, sz_mulW ht hc, _, rfl, _, rfl, _, _, rfl, rfl, sz_mulW hx hb, _, _, rfl, rfl, ?_⟩
    exact q _ s12
end
/-! ### the law's own ratios -/
def spGcd : Sp := fun vs H Q _ => ∃ a b : Int, vs = [.int a, .int b] ∧ a.natAbs < 2 ^ big ∧ b.natAbs < 2 ^ big ∧ Q (.int ((Nat.gcd a.natAbs b.natAbs : Nat) : Int)) H
def spQ : Sp := fun vs H Q _ => ∃ t b : Int, vs = [.int t, .int b] ∧ b ≠ 0 ∧ t.natAbs < 2 ^ big ∧ b.natAbs < 2 ^ big ∧ ∀ (p : Addr) (H' : Hp), Same H H' → H p = none → H' p = some (.tup [.int (low t b).1, .int (low t b).2]) → Q (.ref p) H'
section
variable {P : Program} {w : World} {K : PySem.W.Frag} {mg : Str → Option Value} {base : Heap} {CN : Addr}
abbrev sLGcd : Stmt := topS 40
abbrev sLQ : Stmt := topS 41
theorem scLGcd : FnScope ["_law_one", "_law_two", "_law_lap"] ["_law_one", "_law_two"] (defScope sLGcd) := ⟨rfl, rfl, rfl, by decide +kernel, rfl, by decide +kernel, by decide +kernel⟩
theorem ok_lgcd {f : Addr} {fd : FuncData} (F : Fun K "_law_gcd" "_law_gcd" sLGcd f fd) (T : Bk mg) : FnOk P w K mg base CX0 1 f fd ["_law_one", "_law_two"] spGcd := by
  refine F.ok scLGcd (fun vs H Q E h => ?_) (fun cdv A outer s H vs Q E hr h => ?_)
  · obtain ⟨a, b, rfl, _⟩ := h
    rfl
  · obtain ⟨a, b, rfl, ha, hb, q⟩ := h
    refine ⟨_, (pss_cons (ps_par (i := 0) (j := 1) (by rfl) scLGcd.nd rfl rfl (by decide) rfl rfl (pa_cons (pe_callB call_abs (by rfl) T.abs (by decide +kernel) (pa_cons (pv 0) pa_nil)) (pa_cons (pe_callB call_abs (by rfl) T.abs (by decide +kernel) (pa_cons (pv 1) pa_nil)) pa_nil)) (by rfl))
      (pss_cons (ps_for PassesOwn.never rfl (pi_range1 (by rfl) T.range (pa_cons pe_int pa_nil)) (pg_name (i := 2) scLGcd.nd rfl (Or.inl rfl))
        (pss_cons (ps_if (pt_cmpR op_eq (pv 1) pe_int (nomark _)) (pss_one ps_break) pss_nil)
        (pss_one (ps_par (i := 0) (j := 1) (by rfl) scLGcd.nd rfl rfl (by decide) rfl rfl (pa_cons (pv 1) (pa_cons (pe_op op_mod (pe_callTy call_int1 (by rfl) T.int (by decide +kernel) (pa_cons (pv 0) pa_nil)) (pv 1)) pa_nil)) (by rfl)))))
      (pss_one (ps_ret (pv 0))))), ?_⟩
    refine ⟨_, rfl, _, rfl, _, rfl, _, rfl, _, _, rfl, ?_⟩
    refine ⟨50000, rfl, by decide, by decide, for_range (lo := 0) (n := 50000) (fun i σ H2 => H2 = H ∧ ∃ (x y : Int) (v : Option V), σ = [some (.int x), some (.int y), v] ∧ Lap (Nat.gcd a.natAbs b.natAbs) (a.natAbs * b.natAbs) i x y) ⟨rfl, _, _, none, rfl, lap0 a b⟩ ?_ ?_⟩
    · rintro i σ H2 hi ⟨rfl, x, y, v, rfl, h⟩
      refine ⟨_, rfl, rfl, _, rfl, ?_⟩
      by_cases hy : y = 0
      · rw [decide_eq_true (by rw [hy])]
        refine iteT ?_
        refine ⟨_, rfl, ?_⟩
        have e := lap_end h hy
        rw [e]
        exact q
      · rw [decide_eq_false (fun z => hy (by have z2 := V.int.inj z; exact z2))]
        refine iteF ?_
        have y0 := h.b0
        refine ⟨_, rfl, _, rfl, .inl ⟨_, rfl, _, rfl, _, _, rfl, rfl, (by show 0 < y; omega), _, _, rfl, ?_⟩⟩
        exact ⟨rfl, _, _, _, rfl, lap_next h hy⟩
    · rintro σ H2 ⟨rfl, x, y, v, rfl, h⟩
      have hP : a.natAbs * b.natAbs < 2 ^ (50000 - 1) := by
        have z : a.natAbs * b.natAbs < 2 ^ (big + big) := by
          rw [Nat.pow_add]
          exact Nat.mul_lt_mul'' ha hb
        exact Nat.lt_trans z (Nat.pow_lt_pow_right (by decide) (by decide))
      have e := lap_end h (lap_over h (by decide) hP)
      refine ⟨_, rfl, ?_⟩
      rw [e]
      exact q
theorem scLQ : FnScope ["_law_top", "_law_bottom", "_law_by"] ["_law_top", "_law_bottom"] (defScope sLQ) := ⟨rfl, rfl, rfl, by decide +kernel, rfl, by decide +kernel, by decide +kernel⟩
theorem ok_lq {f : Addr} {fd : FuncData} (F : Fun K "_law_q" "_law_q" sLQ f fd) (G : Df P w K mg base "_law_gcd" 1 ["_law_one", "_law_two"] spGcd) : FnOk P w K mg base CX0 2 f fd ["_law_top", "_law_bottom"] spQ := by
  refine F.ok scLQ (fun vs H Q E h => ?_) (fun cdv A outer s H vs Q E hr h => ?_)
  · obtain ⟨t, b, rfl, _⟩ := h
    rfl
  · obtain ⟨t, b, rfl, hb, ht, hz, q⟩ := h
    refine ⟨_, (pss_cons (ps_set (i := 2) scLQ.nd rfl (Or.inl rfl) (pe_call G.ok hr rfl G.m G.kp G.b .nil pass0 (pa_cons (pv 0) (pa_cons (pv 1) pa_nil))))
      (pss_cons (ps_set (i := 2) scLQ.nd rfl (Or.inl rfl) (pe_ifExp (pt_cmpR op_lt (pv 1) pe_int (nomark _)) (pe_un un_neg (pv 2)) (pv 2)))
      (pss_one (ps_ret (pe_tup (pa_cons (pe_op op_fdivZ (pv 0) (pv 2)) (pa_cons (pe_op op_fdivZ (pv 1) (pv 2)) pa_nil))))))), ?_⟩
    have tail : ∀ s : Int, s = sg t b → (∀ p, H p = none → Q (.ref p) (upd H p (.tup [.int (t.fdiv s), .int (b.fdiv s)]))) := fun s e p np => by
      rw [e]
      exact q p _ (same_upd np) np upd_same
    refine ⟨_, rfl, _, rfl, t, b, rfl, ht, hz, _, rfl, _, _, rfl, rfl, _, rfl, ?_⟩
    refine ite2 (fun hlt => ?_) (fun hlt => ?_)
    · have h2 : b < 0 := of_decide_eq_true hlt
      have e : -((Nat.gcd t.natAbs b.natAbs : Nat) : Int) = sg t b := by unfold sg; rw [if_pos h2]
      have c : ∀ x : Int, CDivZ x (-((Nat.gcd t.natAbs b.natAbs : Nat) : Int)) := fun x => by rw [e]; exact sg_cdiv hb hz
      exact ⟨_, rfl, _, rfl, _, rfl, _, rfl, _, _, rfl, rfl, c _, _, rfl, _, rfl, _, _, rfl, rfl, c _, (by show 2 ≤ sizeLine; decide), tail _ e⟩
    · have h2 : ¬ b < 0 := fun z => hlt (decide_eq_true z)
      have e : ((Nat.gcd t.natAbs b.natAbs : Nat) : Int) = sg t b := by unfold sg; rw [if_neg h2]
      have c : ∀ x : Int, CDivZ x ((Nat.gcd t.natAbs b.natAbs : Nat) : Int) := fun x => by rw [e]; exact sg_cdiv hb hz
      exact ⟨_, rfl, _, rfl, _, rfl, _, _, rfl, rfl, c _, _, rfl, _, rfl, _, _, rfl, rfl, c _, (by show 2 ≤ sizeLine; decide), tail _ e⟩
end

end Vf

set_option maxRecDepth 100000
set_option maxHeartbeats 8000000
namespace Vf
open PySem PySem.Spec PyProof.Rows L2
/-! ### the law's odd values -/
def spAny (K : PySem.W.Frag) : Sp := fun vs H Q _ => ∃ (p lc : Addr) (B : Int), vs = [.ref p] ∧ Pen H p lc B ∧ B ≤ 100000000 ∧
  ∀ (v : V) (d : PyData) (H' : Hp), Pen H' p lc (B + 1) → Kp p H H' → Dt K (nw H H') v d → partsD d = none → Gd d → (PyData.str d.shown).canLay0 = true → Q v H'
section
variable {P : Program} {w : World} {K : PySem.W.Frag} {mg : Str → Option Value} {base : Heap}
end

end Vf

set_option maxRecDepth 100000
set_option maxHeartbeats 8000000
namespace Vf
open PySem PySem.Spec PyProof.Rows L2
/-! ### the law's passed ratios, some ratios -/
/-- below 2 ^ 80 in size -/
def S80 (z : Int) : Prop := z.natAbs < 2 ^ 80
theorem s80_k {t k : Int} (h : S80 t) (h0 : 0 < k) (h3 : k ≤ 3) : (t * k).natAbs < 2 ^ 90 := by
  unfold S80 at h
  rw [Int.natAbs_mul]
  have hk : k.natAbs ≤ 3 := by omega
  have : t.natAbs * k.natAbs ≤ t.natAbs * 3 := Nat.mul_le_mul_left _ hk
  have e : (2 : Nat) ^ 90 = 2 ^ 80 * 1024 := by decide +kernel
  rw [e]
  omega
theorem gd_z {z : Int} (h : z.natAbs < 2 ^ 90) : Gd (.int z) := gd_int (Nat.lt_trans h (Nat.pow_lt_pow_right (by decide) (by decide)))
theorem gd_pair {a b : Int} (ha : a.natAbs < 2 ^ 90) (hb : b.natAbs < 2 ^ 90) : Gd (.list [.int a, .int b]) ∧ Gd (.tuple [.int a, .int b]) := by
  have ga := gd_z ha
  have gb := gd_z hb
  have all : ∀ d ∈ [PyData.int a, PyData.int b], d = .int a ∨ d = .int b := fun d hd => by simpa using hd
  have big : ∀ {z : Int}, z.natAbs < 2 ^ 90 → (PyData.int z).shown.length ≤ 2000 := fun {z} h => by
    simp only [PyData.shown]
    exact Nat.le_trans (int_text_len_1921 (log_small (Nat.lt_trans h (Nat.pow_lt_pow_right (by decide) (by decide))))) (by decide)
  refine gd_seq (ds := [.int a, .int b]) (n := 2) (m := 2000) (Nat.le_refl 2) (fun d hd => ?_) (fun d hd => ?_) (fun d hd => ?_) (by decide)
  · rcases all d hd with h | h <;> rw [h]
    · exact ga.sh
    · exact gb.sh
  · rcases all d hd with h | h <;> rw [h] <;> simp [PyData.depth]
  · rcases all d hd with h | h <;> rw [h]
    · exact big ha
    · exact big hb
def spPassed (K : PySem.W.Frag) : Sp := fun vs H Q _ => ∃ (p lc r : Addr) (B t b : Int), vs = [.ref p, .ref r] ∧ Pen H p lc B ∧ B ≤ 100000000 ∧ H r = some (.tup [.int t, .int b]) ∧ 0 < b ∧ S80 t ∧ S80 b ∧
  ∀ (v : V) (d : PyData) (k : Int) (H' : Hp), Pen H' p lc (B + 3) → Kp p H H' → Dt K (nw H H') v d → partsD d = some (t * k, b * k) → 0 < k → k ≤ 3 → Gd d → Q v H'
section
variable {P : Program} {w : World} {K : PySem.W.Frag} {mg : Str → Option Value} {base : Heap}
abbrev sPassed : Stmt := topS 45
theorem scPassed : FnScope ["_law_pen_here", "_law_ratio", "_law_by"] ["_law_pen_here", "_law_ratio"] (defScope sPassed) := ⟨rfl, rfl, rfl, by decide +kernel, rfl, by decide +kernel, by decide +kernel⟩
theorem ok_passed {f : Addr} {fd : FuncData} (F : Fun K "_law_passed" "_law_passed" sPassed f fd) (Gd_ : Df P w K mg base "_law_draw" 1 ["_law_pen_here", "_law_many"] spDraw) (Gp : Df P w K mg base "_law_pick" 2 ["_law_pen_here", "_law_some"] spPick) : FnOk P w K mg base CX0 3 f fd ["_law_pen_here", "_law_ratio"] (spPassed K) := by
  refine F.ok scPassed (fun vs H Q E h => ?_) (fun cdv A outer s H vs Q E hr h => ?_)
  · obtain ⟨p, lc, r, B, t, b, rfl, _⟩ := h
    rfl
  · obtain ⟨p, lc, r, B, t, b, rfl, hP, hB, hr0, hb, ht, hbz, q⟩ := h
    have rp : r ≠ p := by
      obtain ⟨_, _, _, _, _, g1, _⟩ := hP
      exact ne_of hr0 g1.1 (by intro z; cases z)
    refine ⟨_, (C8.pss_cut (ps_if (PW.pt (pw_and (pt_cmpR op_eq (pe_ix ix_tup (pv 1) pe_int (fun _ _ => rfl)) pe_int (nomark _)) (pw_and1 (pt_cmpR op_eq (pe_call Gd_.ok (hr.mono (by decide)) rfl Gd_.m Gd_.kp Gd_.b .nil pass0 (pa_cons (pv 0) (pa_cons pe_int pa_nil))) pe_int (nomark _)))))
        (pss_one (ps_ret (pe_ix ix_tup (pv 1) pe_int (fun _ _ => rfl))))
        pss_nil)
      (pss_cons (ps_set (i := 2) scPassed.nd rfl (Or.inl rfl) (pe_call Gp.ok hr rfl Gp.m Gp.kp Gp.b .nil pass0 (pa_cons (pv 0) (pa_cons (pe_lst (pa_cons pe_int (pa_cons pe_int (pa_cons pe_int (pa_cons pe_int pa_nil))))) pa_nil))))
      (pss_one (ps_ret (pe_call Gp.ok hr rfl Gp.m Gp.kp Gp.b .nil pass0 (pa_cons (pv 0) (pa_cons (pe_lst (pa_cons (pe_tup (pa_cons (pe_op op_mul (pe_ix ix_tup (pv 1) pe_int (fun _ _ => rfl)) (pv 2)) (pa_cons (pe_op op_mul (pe_ix ix_tup (pv 1) pe_int (fun _ _ => rfl)) (pv 2)) pa_nil))) (pa_cons (pe_lst (pa_cons (pe_op op_mul (pe_ix ix_tup (pv 1) pe_int (fun _ _ => rfl)) (pv 2)) (pa_cons (pe_op op_mul (pe_ix ix_tup (pv 1) pe_int (fun _ _ => rfl)) (pv 2)) pa_nil))) pa_nil))) pa_nil))))))), ?_⟩
    refine ⟨fun σ H2 => ∃ B1, σ = [some (.ref p), some (.ref r), none] ∧ Pen H2 p lc B1 ∧ B1 ≤ B + 1 ∧ Kp p H H2, ?_, ?_⟩
    · refine ⟨_, rfl, r, _, _, .int b, rfl, rfl, SqT.of hr0, at_of (j := 1) rfl rfl, rfl, _, rfl, ?_⟩
      by_cases hb1 : b = 1
      · rw [decide_eq_true (by rw [hb1])]
        refine iteT ?_
        refine ⟨_, rfl, p, lc, B, _, rfl, hP, by omega, by decide, by decide, fun z H1 z0 z1 hP1 k1 => ⟨rfl, _, rfl, ?_⟩⟩
        have hr1 := k1 _ _ rp hr0
        by_cases hz : z = 0
        · rw [decide_eq_true (by rw [hz])]
          refine iteT ?_
          refine ⟨_, rfl, r, _, _, .int t, rfl, rfl, SqT.of hr1, at_of (j := 0) rfl rfl, ?_⟩
          exact q (.int t) (.int t) 1 H1 (hP1.more (by omega)) k1 (.int t) (by show some (t, 1) = some (t * 1, b * 1); rw [hb1, Int.mul_one, Int.mul_one]) (by decide) (by decide) (gd_z (Nat.lt_trans ht (by decide +kernel)))
        · rw [decide_eq_false (fun h => hz (by have h2 := V.int.inj h; exact h2))]
          refine iteF ?_
          exact ⟨B + 1, rfl, hP1, Int.le_refl _, k1⟩
      · rw [decide_eq_false (fun h => hb1 (by have h2 := V.int.inj h; exact h2))]
        refine iteF ?_
        exact ⟨B, rfl, hP, by omega, Kp.refl⟩
    · rintro σ H1 ⟨B1, rfl, hP1, hB1, k1⟩
      have hr1 := k1 _ _ rp hr0
      refine ⟨_, rfl, (by show 4 ≤ sizeLine; decide), fun l nl => ?_⟩
      have el : upd H1 l (HO.lst [V.int 1, V.int 1, V.int 2, V.int 3]) l = some (HO.lst [V.int 1, V.int 1, V.int 2, V.int 3]) := upd_same
      have s1 : Same H1 (upd H1 l (HO.lst [V.int 1, V.int 1, V.int 2, V.int 3])) := same_upd nl
      have lp : l ≠ p := by
        obtain ⟨o, e⟩ := hP1.there
        exact (ne_of_none e nl).symm
      generalize upd H1 l (HO.lst [V.int 1, V.int 1, V.int 2, V.int 3]) = H2 at el s1 ⊢
      refine ⟨p, lc, l, B1, _, rfl, hP1.same s1, by omega, el, lp, (by show 0 < 4; decide), (by show 4 < 1000000; decide), fun x H3 hx hP3 k3 => ?_⟩
      obtain ⟨k, rfl, hk0, hk3⟩ : ∃ k : Int, x = .int k ∧ 0 < k ∧ k ≤ 3 := by
        simp only [List.mem_cons, List.not_mem_nil, or_false] at hx
        rcases hx with h | h | h | h
        · exact ⟨1, h, by decide, by decide⟩
        · exact ⟨1, h, by decide, by decide⟩
        · exact ⟨2, h, by decide, by decide⟩
        · exact ⟨3, h, by decide, by decide⟩
      have k13 : Kp p H H3 := (k1.trans (Kp.of s1)).trans k3
      have hr3 := k13 _ _ rp hr0
      have mk : ∀ z : Int, CMul z k := fun z => .inr ⟨by omega, by omega⟩
      refine ⟨_, rfl, _, rfl, r, _, _, .int t, rfl, rfl, SqT.of hr3, at_of (j := 0) rfl rfl, _, rfl, _, _, rfl, rfl, mk _, _, rfl, r, _, _, .int b, rfl, rfl, SqT.of hr3, at_of (j := 1) rfl rfl, _, rfl, _, _, rfl, rfl, mk _, (by show 2 ≤ sizeLine; decide), fun t1 n1 => ?_⟩
      have e1 : upd H3 t1 (HO.tup [V.int (t * k), V.int (b * k)]) t1 = some (HO.tup [V.int (t * k), V.int (b * k)]) := upd_same
      have s4 : Same H3 (upd H3 t1 (HO.tup [V.int (t * k), V.int (b * k)])) := same_upd n1
      have tp : t1 ≠ p := by
        obtain ⟨o, e⟩ := hP3.there
        exact (ne_of_none e n1).symm
      generalize upd H3 t1 (HO.tup [V.int (t * k), V.int (b * k)]) = H4 at e1 s4 ⊢
      have hP4 := hP3.same s4
      have hr4 := s4 _ _ hr3
      refine ⟨_, rfl, r, _, _, .int t, rfl, rfl, SqT.of hr4, at_of (j := 0) rfl rfl, _, rfl, _, _, rfl, rfl, mk _, _, rfl, r, _, _, .int b, rfl, rfl, SqT.of hr4, at_of (j := 1) rfl rfl, _, rfl, _, _, rfl, rfl, mk _, (by show 2 ≤ sizeLine; decide), fun l2 n2 => ?_⟩
      have e2 : upd H4 l2 (HO.lst [V.int (t * k), V.int (b * k)]) l2 = some (HO.lst [V.int (t * k), V.int (b * k)]) := upd_same
      have s5 : Same H4 (upd H4 l2 (HO.lst [V.int (t * k), V.int (b * k)])) := same_upd n2
      have l2p : l2 ≠ p := by
        obtain ⟨o, e⟩ := hP4.there
        exact (ne_of_none e n2).symm
      generalize upd H4 l2 (HO.lst [V.int (t * k), V.int (b * k)]) = H5 at e2 s5 ⊢
      have hP5 := hP4.same s5
      refine ⟨(by show 2 ≤ sizeLine; decide), fun l3 n3 => ?_⟩
      have e3 : upd H5 l3 (HO.lst [V.ref t1, V.ref l2]) l3 = some (HO.lst [V.ref t1, V.ref l2]) := upd_same
      have s6 : Same H5 (upd H5 l3 (HO.lst [V.ref t1, V.ref l2])) := same_upd n3
      have l3p : l3 ≠ p := by
        obtain ⟨o, e⟩ := hP5.there
        exact (ne_of_none e n3).symm
      generalize upd H5 l3 (HO.lst [V.ref t1, V.ref l2]) = H6 at e3 s6 ⊢
      have hP6 := hP5.same s6
      refine ⟨p, lc, l3, _, _, rfl, hP6, by omega, e3, l3p, (by show 0 < 2; decide), (by show 2 < 1000000; decide), fun x H7 hx hP7 k7 => ?_⟩
      have k17 : Kp p H H7 := ((k13.trans (Kp.of s4)).trans (Kp.of (s5.trans s6))).trans k7
      have hbk : 0 < b * k := Int.mul_pos hb hk0
      have pr : pair? [.int (t * k), .int (b * k)] = some (t * k, b * k) := by
        show (if 0 < b * k then some (t * k, b * k) else none) = some (t * k, b * k)
        rw [if_pos hbk]
      have gp := gd_pair (s80_k ht hk0 hk3) (s80_k hbz hk0 hk3)
      simp only [List.mem_cons, List.not_mem_nil, or_false] at hx
      rcases hx with h | h
      · rw [h]
        exact q _ (.tuple [.int (t * k), .int (b * k)]) k H7 (hP7.more (by omega)) k17 (.tup (SqT.of (nw_at (some_free k13 hP3.there.choose_spec n1) (k7 _ _ tp (s6 _ _ (s5 _ _ e1))))) (.cons (.int _) (.cons (.int _) .nil))) pr hk0 hk3 gp.2
      · rw [h]
        exact q _ (.list [.int (t * k), .int (b * k)]) k H7 (hP7.more (by omega)) k17 (.lst (SqL.of (nw_at (some_free k13 hP3.there.choose_spec (s4.free n2)) (k7 _ _ l2p (s6 _ _ e2)))) (.cons (.int _) (.cons (.int _) .nil))) pr hk0 hk3 gp.1
end

end Vf

set_option maxRecDepth 100000
set_option maxHeartbeats 8000000
namespace Vf
open PySem PySem.Spec PyProof.Rows L2
section
variable {P : Program} {w : World} {K : PySem.W.Frag} {mg : Str → Option Value} {base : Heap} {CN : Addr}
abbrev sLPoly : Stmt := topS 46
/-- the law's own row without zeros behind -/
def spLPoly (K : PySem.W.Frag) : Sp := fun vs H Q _ => ∃ (a : Addr) (as : List Addr) (ps : List (Int × Int)), vs = [.ref a] ∧ SqL K H a (as.map V.ref) ∧ Tups H as ps ∧ as.length ≤ 1000 ∧
  ∀ (l : Addr) (as' : List Addr) (H' : Hp), Same H H' → H l = none → H' l = some (.lst (as'.map V.ref)) → Tups H' as' (strip ps) → Q (.ref l) H'
theorem scLPoly : FnScope ["_law_numbers", "_law_found", "_law_lap"] ["_law_numbers"] (defScope sLPoly) := ⟨rfl, rfl, rfl, by decide +kernel, rfl, by decide +kernel, by decide +kernel⟩
theorem ok_lpoly {f : Addr} {fd : FuncData} (F : Fun K "_law_poly" "_law_poly" sLPoly f fd) (T : Bk mg) (hm1 : M1 base) : FnOk P w K mg base CX0 1 f fd ["_law_numbers"] (spLPoly K) := by
  refine F.ok scLPoly (fun vs H Q E h => ?_) (fun cdv A outer s H vs Q E hr h => ?_)
  · obtain ⟨a, as, ps, rfl, _⟩ := h
    rfl
  · obtain ⟨a, as, ps, rfl, hS, hT, hz, q⟩ := h
    refine ⟨_, (pss_cons (ps_set (i := 1) scLPoly.nd rfl (Or.inl rfl) (pe_callTy call_list_of (by rfl) T.list (by decide +kernel) (pa_cons (pv 0) pa_nil)))
  (pss_cons (ps_for PassesOwn.never rfl (pi_range1 (by rfl) T.range (pa_cons (pe_callB call_len_seq (by rfl) T.len (by decide +kernel) (pa_cons (pv 0) pa_nil)) pa_nil)) (pg_name (i := 2) scLPoly.nd rfl (Or.inl rfl))
    (pss_cons (ps_if (PW.pt (pw_or (pt_cmpR (op_eqT hr.units hm1) (pv 1) (pe_lst pa_nil) (nomark _)) (pw_or1 (pt_cmpR op_ne (pe_ix ix_tup (pe_ix ix_list (pv 1) (pe_un un_neg pe_int) (fun _ _ => rfl)) pe_int (fun _ _ => rfl)) pe_int (nomark _)))))
      (pss_one ps_break)
      pss_nil)
    (pss_one (ps_expr (pe_bm0 PySem.F.plainAttrs_list PySem.F.slot_list_pop PySem.F.type_list_pop mt_pop (pv 1))))))
  (pss_one (ps_ret (pv 1))))), ?_⟩
    refine ⟨_, rfl, a, _, rfl, .inl hS, fun l nl => ?_⟩
    have el : upd H l (HO.lst (as.map V.ref)) l = some (HO.lst (as.map V.ref)) := upd_same
    have sl : Same H (upd H l (HO.lst (as.map V.ref))) := same_upd nl
    generalize upd H l (HO.lst (as.map V.ref)) = H1 at el sl ⊢
    have lm : (as.map V.ref).length = as.length := List.length_map ..
    refine ⟨_, rfl, a, _, rfl, .inl (same_sqL sl hS), _, rfl, by omega, by omega, for_range (lo := 0) (n := (((as.map V.ref).length : Nat) : Int).toNat) (fun i σ H2 => ∃ as' qs v, σ = [some (.ref a), some (.ref l), v] ∧ Same H H2 ∧ H2 l = some (.lst (as'.map V.ref)) ∧ Tups H2 as' qs ∧ strip qs = strip ps ∧ as'.length + i = as.length)
      ⟨as, ps, none, rfl, sl, el, hT.same sl, rfl, rfl⟩ ?_ ?_⟩
    · rintro i σ H2 hi ⟨as', qs, v, rfl, s2, e2, t2, hst, hn⟩
      refine ⟨_, rfl, (by show 0 ≤ sizeLine; decide), fun l0 n0 => ?_⟩
      have l0l : l0 ≠ l := (ne_of_none e2 n0).symm
      have s3 : Same H2 (upd H2 l0 (HO.lst [])) := same_upd n0
      have e0 : upd H2 l0 (HO.lst []) l0 = some (HO.lst []) := upd_same
      generalize upd H2 l0 (HO.lst []) = H3 at s3 e0 ⊢
      have e3 := s3 _ _ e2
      have t3 := t2.same s3
      refine ⟨.list (qs.map pairD), .list (([] : List (Int × Int)).map pairD), .lst (SqL.of e3) t3.dts, .lst (SqL.of e0) .nil, (plain_row _).2, (plain_row _).2, (depth_row _).2, _, rfl, ?_⟩
      rw [eqv_rowL]
      rcases snoc_cases qs with rfl | ⟨qs, y, rfl⟩
      · rw [decide_eq_true rfl]
        refine iteT ?_
        cases t3
        refine iteT ?_
        exact ⟨_, rfl, q l [] H3 (s2.trans s3) nl e3 (by rw [← hst]; exact .nil)⟩
      · rw [decide_eq_false (by simp)]
        refine iteF ?_
        obtain ⟨as2, r, rfl, t4, er⟩ := t3.unsnoc
        refine ⟨_, rfl, _, rfl, l, _, _, .ref r, rfl, rfl, SqL.of e3, (by rw [List.map_append]; exact atI_last _ _), r, _, _, .int y.1, rfl, rfl, SqT.of er, at_of (j := 0) rfl rfl, rfl, _, rfl, ?_⟩
        by_cases y0 : y.1 = 0
        · rw [decide_eq_true (by rw [y0])]
          refine iteF ?_
          refine ⟨_, rfl, .inl ⟨rfl, _, SqL.of e3⟩, l, _, .ref r, rfl, rfl, e3, (by simp), ?_⟩
          refine ⟨as2, qs, _, rfl, fun b o eb => ?_, ?_, ?_, ?_, ?_⟩
          · rw [upd_ne (ne_of_none eb nl)]
            exact s3 _ _ (s2 _ _ eb)
          · rw [upd_same, List.map_append]
            simp
          · refine t4.imp fun c p z => ?_
            rw [upd_ne (ne_of z e3 (by intro z; cases z))]
            exact z
          · rw [strip_snoc, if_pos y0] at hst
            exact hst
          · rw [List.length_append] at hn
            simp at hn
            omega
        · rw [decide_eq_false (fun z => y0 (by have z2 := V.int.inj z; exact z2))]
          refine iteT ?_
          refine ⟨_, rfl, q l (as2 ++ [r]) H3 (s2.trans s3) nl e3 ?_⟩
          rw [← hst, strip_snoc, if_neg y0]
          exact t3
    · rintro σ H2 ⟨as', qs, v, rfl, s2, e2, t2, hst, hn⟩
      have h0 : as'.length = 0 := by omega
      have h1 := t2.len
      have h2 : as' = [] := List.length_eq_zero_iff.mp h0
      have h3 : qs = [] := List.length_eq_zero_iff.mp (by omega)
      subst h2 h3
      exact ⟨_, rfl, q l [] H2 s2 nl e2 (by rw [← hst]; exact .nil)⟩
end

/-! ### the law's own polynomials -/
def spL2 (g : Rat → Rat → Rat) : Sp := fun vs H Q _ => ∃ (r1 r2 : Addr) (a b : Rat), vs = [.ref r1, .ref r2] ∧ TR H r1 a ∧ TR H r2 b ∧ Sr a ∧ Sr b ∧ ∀ (r : Addr) (H' : Hp), Same H H' → H r = none → TR H' r (g a b) → Q (.ref r) H'
def rAdd (a b : Rat) : Rat := a + b
def rMul (a b : Rat) : Rat := a * b
/-- every number is small -/
def SrL (a : List Rat) : Prop := ∀ i, Sr (cf a i)
theorem sr_zero : Sr 0 := ⟨by show (0 : Nat) < 2 ^ 1900; exact Nat.pow_pos (by decide), by show 1 < 2 ^ 1900; exact Nat.one_lt_pow (by decide) (by decide)⟩
def spLPP : Sp := fun vs H Q _ => ∃ (l1 l2 : Addr) (a b : List Rat), vs = [.ref l1, .ref l2] ∧ RL H l1 a ∧ RL H l2 b ∧ a.length ≤ 500 ∧ b.length ≤ 500 ∧ SrL a ∧ SrL b ∧ ∀ (l : Addr) (H' : Hp), Same H H' → RL H' l (stripQ (padd a b)) → Q (.ref l) H'
def spLPS : Sp := fun vs H Q _ => ∃ (l1 r : Addr) (a : List Rat) (c : Rat), vs = [.ref l1, .ref r] ∧ RL H l1 a ∧ TR H r c ∧ a.length ≤ 500 ∧ SrL a ∧ Sr c ∧ ∀ (l : Addr) (H' : Hp), Same H H' → RL H' l (stripQ (pscale a c)) → Q (.ref l) H'
def spLPM : Sp := fun vs H Q _ => ∃ (l1 l2 : Addr) (a b : List Rat), vs = [.ref l1, .ref l2] ∧ RL H l1 a ∧ RL H l2 b ∧ a.length ≤ 500 ∧ b.length ≤ 500 ∧ SrL a ∧ SrL b ∧ ∀ (l : Addr) (H' : Hp), Same H H' → RL H' l (stripQ (padd a (stripQ (pscale b (-1))))) → Q (.ref l) H'
theorem stripQ_len (l : List Rat) : (stripQ l).length ≤ l.length := stp_len (stripQ_stp l) (cf_stripQ l)
section
variable {P : Program} {w : World} {K : PySem.W.Frag} {mg : Str → Option Value} {base : Heap} {CN : Addr}
abbrev sLPlus : Stmt := topS 42
abbrev sLTimes : Stmt := topS 43
theorem scLPlus : FnScope ["_law_one", "_law_two"] ["_law_one", "_law_two"] (defScope sLPlus) := ⟨rfl, rfl, rfl, by decide +kernel, rfl, by decide +kernel, by decide +kernel⟩
theorem den_ne (a b : Rat) : ((a.den : Int) * (b.den : Int)) ≠ 0 := by
  have h1 := a.den_nz
  have h2 := b.den_nz
  exact Int.mul_ne_zero (by omega) (by omega)
theorem ok_lplus {f : Addr} {fd : FuncData} (F : Fun K "_law_plus" "_law_plus" sLPlus f fd) (Gq : Df P w K mg base "_law_q" 2 ["_law_top", "_law_bottom"] spQ) : FnOk P w K mg base CX0 3 f fd ["_law_one", "_law_two"] (spL2 rAdd) := by
  refine F.ok scLPlus (fun vs H Q E h => ?_) (fun cdv A outer s H vs Q E hr h => ?_)
  · obtain ⟨r1, r2, a, b, rfl, _⟩ := h
    rfl
  · obtain ⟨r1, r2, a, b, rfl, h1, h2, za, zb, q⟩ := h
    refine ⟨_, (pss_one (ps_ret (pe_call Gq.ok (hr.mono (by decide)) rfl Gq.m Gq.kp Gq.b .nil pass0 (pa_cons (pe_op op_add (pe_op op_mulW (pe_ix ix_tup (pv 0) pe_int (fun _ _ => rfl)) (pe_ix ix_tup (pv 1) pe_int (fun _ _ => rfl))) (pe_op op_mulW (pe_ix ix_tup (pv 1) pe_int (fun _ _ => rfl)) (pe_ix ix_tup (pv 0) pe_int (fun _ _ => rfl)))) (pa_cons (pe_op op_mulW (pe_ix ix_tup (pv 0) pe_int (fun _ _ => rfl)) (pe_ix ix_tup (pv 1) pe_int (fun _ _ => rfl))) pa_nil))))), ?_⟩
    obtain ⟨s1, s2, s3⟩ := sr_sum za zb
    refine ⟨_, rfl, r1, _, _, .int a.num, rfl, rfl, SqT.of h1, at_of (j := 0) rfl rfl, _, rfl, r2, _, _, .int b.den, rfl, rfl, SqT.of h2, at_of (j := 1) rfl rfl, _, _, rfl, rfl, big_mulW za.n zb.d, ?_⟩
    refine ⟨_, rfl, r2, _, _, .int b.num, rfl, rfl, SqT.of h2, at_of (j := 0) rfl rfl, _, rfl, r1, _, _, .int a.den, rfl, rfl, SqT.of h1, at_of (j := 1) rfl rfl, _, _, rfl, rfl, big_mulW zb.n za.d, ?_⟩
    refine ⟨_, _, rfl, rfl, ?_⟩
    refine ⟨_, rfl, r1, _, _, .int a.den, rfl, rfl, SqT.of h1, at_of (j := 1) rfl rfl, _, rfl, r2, _, _, .int b.den, rfl, rfl, SqT.of h2, at_of (j := 1) rfl rfl, _, _, rfl, rfl, big_mulW za.d zb.d, ?_⟩
    refine ⟨_, _, rfl, den_ne a b, s1, s2, fun r H' ss nr er => ?_⟩
    rw [low_add] at er
    exact q r H' ss nr er
theorem scLTimes : FnScope ["_law_one", "_law_two"] ["_law_one", "_law_two"] (defScope sLTimes) := ⟨rfl, rfl, rfl, by decide +kernel, rfl, by decide +kernel, by decide +kernel⟩
theorem ok_ltimes {f : Addr} {fd : FuncData} (F : Fun K "_law_times" "_law_times" sLTimes f fd) (Gq : Df P w K mg base "_law_q" 2 ["_law_top", "_law_bottom"] spQ) : FnOk P w K mg base CX0 3 f fd ["_law_one", "_law_two"] (spL2 rMul) := by
  refine F.ok scLTimes (fun vs H Q E h => ?_) (fun cdv A outer s H vs Q E hr h => ?_)
  · obtain ⟨r1, r2, a, b, rfl, _⟩ := h
    rfl
  · obtain ⟨r1, r2, a, b, rfl, h1, h2, za, zb, q⟩ := h
    refine ⟨_, (pss_one (ps_ret (pe_call Gq.ok (hr.mono (by decide)) rfl Gq.m Gq.kp Gq.b .nil pass0 (pa_cons (pe_op op_mulW (pe_ix ix_tup (pv 0) pe_int (fun _ _ => rfl)) (pe_ix ix_tup (pv 1) pe_int (fun _ _ => rfl))) (pa_cons (pe_op op_mulW (pe_ix ix_tup (pv 0) pe_int (fun _ _ => rfl)) (pe_ix ix_tup (pv 1) pe_int (fun _ _ => rfl))) pa_nil))))), ?_⟩
    obtain ⟨s1, s2, s3⟩ := sr_sum za zb
    refine ⟨_, rfl, r1, _, _, .int a.num, rfl, rfl, SqT.of h1, at_of (j := 0) rfl rfl, _, rfl, r2, _, _, .int b.num, rfl, rfl, SqT.of h2, at_of (j := 0) rfl rfl, _, _, rfl, rfl, big_mulW za.n zb.n, ?_⟩
    refine ⟨_, rfl, r1, _, _, .int a.den, rfl, rfl, SqT.of h1, at_of (j := 1) rfl rfl, _, rfl, r2, _, _, .int b.den, rfl, rfl, SqT.of h2, at_of (j := 1) rfl rfl, _, _, rfl, rfl, big_mulW za.d zb.d, ?_⟩
    refine ⟨_, _, rfl, den_ne a b, s3, s2, fun r H' ss nr er => ?_⟩
    rw [low_times] at er
    exact q r H' ss nr er
/-- the law's stripping, on numbers -/
theorem lpoly_q {K : PySem.W.Frag} {H : Hp} {l : Addr} {qs : List Rat} {Q : VK} (h : RL H l qs) (hl : qs.length ≤ 1000) (k : ∀ (l' : Addr) (H' : Hp), Same H H' → RL H' l' (stripQ qs) → Q (.ref l') H') {E : XK} : spLPoly K [.ref l] H Q E := by
  obtain ⟨as, e, t⟩ := h
  have := t.lenQ
  refine ⟨l, as, qs.map pq, rfl, SqL.of e, t, by omega, fun l' as' H' s n e' t' => k l' H' s ⟨as', e', ?_⟩⟩
  rw [strip_map] at t'
  exact t'
theorem cf_pscale (a : List Rat) (c : Rat) (i : Nat) : cf (pscale a c) i = cf a i * c := by
  unfold pscale
  exact cf_map (f := fun x => x * c) (Rat.zero_mul c) a i
theorem sr_neg {q : Rat} (h : Sr q) : Sr (q * -1) := by
  have e : q * -1 = -q := by grind
  rw [e]
  exact ⟨by rw [Rat.neg_num, Int.natAbs_neg]; exact h.1, by rw [Rat.neg_den]; exact h.2⟩
end

end Vf

set_option maxRecDepth 100000
set_option maxHeartbeats 8000000
namespace Vf
open PySem PySem.Spec PyProof.Rows L2
/-! ### the class of polynomials -/
/-- the class, as the written part tells it -/
structure PoC (K : PySem.W.Frag) (mg : Str → Option Value) (CP : Addr) : Prop where
  m : mg "Poly" = some (.ref CP)
  cl : Cls K CP
  nf : NoAttr K CP "numbers"
  ca : PySem.W.findIn K (.ref CP) "__class__" = some (some (.builtin "object.__class__"))
  cn : PySem.W.specialIn K (.builtin "object.__class__") "__get__" = some (some (.builtin "getset_descriptor.__get__"))
  ct : PySem.W.takesIn K (.builtin "object.__class__") = some true
  cm : PySem.W.mroIn K CP (.type "object") = some true
  no : ∀ d : PyData, PySem.W.kitOne K (.type (tyD d)) (.ref CP) = some false
  fs : PySem.W.notFirst K CP (.ref CP) = true
  fd : ∀ d : PyData, PySem.W.notFirst K CP (.type (tyD d)) = true
theorem PoC.io {K : PySem.W.Frag} {mg : Str → Option Value} {CP : Addr} (_ : PoC K mg CP) : PySem.W.kitOne K (.ref CP) (.ref CP) = some true := by
  unfold PySem.W.kitOne
  rw [if_pos (by simp)]
/-- a polynomial with these numbers stands at a -/
def PolyAt (K : PySem.W.Frag) (CP : Addr) (H : Hp) (a : Addr) (rs : List (Int × Int)) : Prop := ∃ dx q as, H a = some (.ins CP dx [("numbers", .ref q)]) ∧ H q = some (.tup (as.map V.ref)) ∧ Tups H as rs
theorem PolyAt.imp {K : PySem.W.Frag} {CP : Addr} {H H' : Hp} {a : Addr} {rs : List (Int × Int)} (h : PolyAt K CP H a rs) (e : ∀ b o, H b = some o → ((∃ fs dx, o = .ins CP dx fs) ∨ ∃ xs, o = .tup xs) → H' b = some o) : PolyAt K CP H' a rs := by
  obtain ⟨dx, q, as, h1, h2, h3⟩ := h
  exact ⟨dx, q, as, e _ _ h1 (.inl ⟨_, _, rfl⟩), e _ _ h2 (.inr ⟨_, rfl⟩), h3.imp fun a p z => e _ _ z (.inr ⟨_, rfl⟩)⟩
theorem PolyAt.same {K : PySem.W.Frag} {CP : Addr} {H H' : Hp} {a : Addr} {rs : List (Int × Int)} (h : PolyAt K CP H a rs) (s : Same H H') : PolyAt K CP H' a rs := h.imp fun b o e _ => s b o e
theorem PolyAt.n {K : PySem.W.Frag} {CP : Addr} {H H' : Hp} {a : Addr} {rs : List (Int × Int)} (h : PolyAt K CP H a rs) (s : LamX.ExtN H H') : PolyAt K CP H' a rs := h.imp fun b o e t => s b o e (fun ps z => by
  rcases t with ⟨_, _, t⟩ | ⟨_, t⟩ <;> rw [t] at z <;> cases z)
theorem PolyAt.kp {K : PySem.W.Frag} {CP : Addr} {H H' : Hp} {a p l : Addr} {B : Int} {rs : List (Int × Int)} (h : PolyAt K CP H a rs) (hP : Pen H p l B) (s : Kp p H H') : PolyAt K CP H' a rs := by
  obtain ⟨ns, a0, d0, c0, f0, g1, _⟩ := hP
  refine h.imp fun b o e t => s b o (fun z => ?_) e
  rw [z, g1.1] at e
  cases e
  rcases t with ⟨_, _, t⟩ | ⟨_, t⟩ <;> cases t
theorem PolyAt.ty {K : PySem.W.Frag} {mg : Str → Option Value} {CP : Addr} {H : Hp} {a : Addr} {rs : List (Int × Int)} (C : PoC K mg CP) (h : PolyAt K CP H a rs) : TyX K H (.ref a) (.ref CP) := by
  obtain ⟨dx, q, as, h1, _⟩ := h
  exact .base (.ins h1 C.cl C.ca C.cn C.ct C.cm)
/-- a row of ratios, as data -/
def rowD : PyData → Option (List (Int × Int))
  | .list ds => ds.mapM partsD
  | .tuple ds => ds.mapM partsD
  | _ => none
theorem rowD_seq {d : PyData} {ds : List PyData} (h : seqD d = some ds) : rowD d = ds.mapM partsD := by
  cases d <;> first | (cases h; rfl) | cases h
theorem rowD_none {d : PyData} (h : seqD d = none) : rowD d = none := by
  cases d <;> first | rfl | cases h
theorem mapM_some : ∀ {ds : List PyData} {ps : List (Int × Int)}, ds.mapM partsD = some ps → ds.length = ps.length ∧ ∀ (i : Nat) (d : PyData), ds[i]? = some d → ∃ p, ps[i]? = some p ∧ partsD d = some p
  | [], ps, h => by
    rw [List.mapM_nil] at h
    cases h
    exact ⟨rfl, fun i d e => by simp at e⟩
  | d0 :: ds, ps, h => by
    rw [List.mapM_cons] at h
    cases e0 : partsD d0 with
    | none => rw [e0] at h; cases h
    | some p0 =>
      rw [e0] at h
      cases e1 : ds.mapM partsD with
      | none => rw [e1] at h; cases h
      | some ps1 =>
        rw [e1] at h
        cases h
        obtain ⟨h1, h2⟩ := mapM_some e1
        refine ⟨by simp [h1], fun i d e => ?_⟩
        cases i with
        | zero =>
          simp at e
          subst e
          exact ⟨p0, rfl, e0⟩
        | succ i => simpa using h2 i d (by simpa using e)
theorem mapM_all : ∀ ds : List PyData, (ds.map fun d => (partsD d).isSome).all id = (ds.mapM partsD).isSome
  | [] => by rw [List.mapM_nil]; rfl
  | d :: ds => by
    rw [List.mapM_cons, List.map_cons, List.all_cons, mapM_all ds]
    cases partsD d with
    | none => rfl
    | some p =>
      cases ds.mapM partsD <;> rfl
def spIsRow (K : PySem.W.Frag) : Sp := fun vs H Q _ => ∃ (v : V) (d : PyData), vs = [v] ∧ Dt K H v d ∧ (∀ ds, seqD d = some ds → ds.length ≤ 1000) ∧ ∀ H', Same H H' → Q (.bl (rowD d).isSome) H'
/-- an error of BadRow -/
def RaisesR (CR : Addr) (H : Hp) (v : V) (E : XK) : Prop := ∀ (d : Addr) (H' : Hp), Same H H' → H d = none → H' d = some (.xd (fl ["row"] [v])) → E (.ref CR) (some d) H'
theorem RaisesR.same {CR : Addr} {H H1 : Hp} {v : V} {E : XK} (s : Same H H1) (h : RaisesR CR H v E) : RaisesR CR H1 v E := fun d H' s' n e => h d H' (s.trans s') (s.free n) e
/-- the numbers of a row, in lowest terms -/
def lowP (p : Int × Int) : Int × Int := low p.1 p.2
/-- a Poly is made of a value -/
def spPolyI (K : PySem.W.Frag) (CP CR : Addr) : Sp := fun vs H Q E => ∃ (x dx : Addr) (v : V) (d : PyData), vs = [.ref x, v] ∧ H x = some (.ins CP dx []) ∧ Dt K H v d ∧ (∀ ds, seqD d = some ds → ds.length ≤ 1000) ∧
  (∀ ps, rowD d = some ps → (∀ p ∈ ps, p.2.natAbs < 2 ^ big) ∧ ∀ H', Kp x H H' → PolyAt K CP H' x (strip (ps.map lowP)) → Q .non H') ∧ (rowD d = none → RaisesR CR H v E)
/-- what the call Poly(v) comes to -/
theorem poly_made {K : PySem.W.Frag} {CP CR : Addr} {H : Hp} {v : V} {d : PyData} {Qd : Addr → Hp → Prop} {E : XK} (hd : Dt K H v d) (hl : ∀ ds, seqD d = some ds → ds.length ≤ 1000)
    (k : ∀ ps, rowD d = some ps → (∀ p ∈ ps, p.2.natAbs < 2 ^ big) ∧ ∀ (x : Addr) (H' : Hp), Same H H' → H x = none → PolyAt K CP H' x (strip (ps.map lowP)) → Qd x H') (r : rowD d = none → RaisesR CR H v E) :
    ∀ x dx, H x = none → H dx = none → dx ≠ x → spPolyI K CP CR (.ref x :: ([v] ++ [])) (upd (upd H dx (.own x)) x (.ins CP dx [])) (fun w H2 => w = .non ∧ Qd x H2) E := by
  intro x dx nx nd ne
  have s1 : Same H (upd (upd H dx (.own x)) x (.ins CP dx [])) := (same_upd nd).trans (same_upd (by rw [upd_ne (Ne.symm ne)]; exact nx))
  refine ⟨x, dx, v, d, rfl, upd_same, hd.mono s1, hl, fun ps hp => ?_, fun hn => (r hn).same s1⟩
  obtain ⟨k1, k2⟩ := k ps hp
  refine ⟨k1, fun H' kp hP => ⟨rfl, k2 x H' (fun b o e => kp b o (ne_of_none e nx) (s1 _ _ e)) nx hP⟩⟩
section
variable {P : Program} {w : World} {K : PySem.W.Frag} {mg : Str → Option Value} {base : Heap} {CP CR CN : Addr}
abbrev sIsRow : Stmt := topS 10
abbrev sPolyI : Stmt := inClass (topS 23) 0
abbrev sPolyE : Stmt := inClass (topS 23) 1
abbrev sPolyD : Stmt := inClass (topS 23) 9
theorem scIsRow : FnScope ["value", "item"] ["value"] (defScope sIsRow) := ⟨rfl, rfl, rfl, by decide +kernel, rfl, by decide +kernel, by decide +kernel⟩
theorem map_take_snoc {α β : Type} {l : List α} {f : α → β} {i : Nat} {x : α} (h : l[i]? = some x) : (l.take i).map f ++ [f x] = (l.take (i + 1)).map f := by
  rw [List.take_succ, h, List.map_append]
  rfl
theorem ok_is_row {f : Addr} {fd : FuncData} (F : Fun K "is_ratio_row" "is_ratio_row" sIsRow f fd) (T : Bk mg) (hall : mg "all" = none) (Gr : Df P w K mg base "is_ratio" 2 ["value"] (spIsRatio K)) : FnOk P w K mg base CX0 3 f fd ["value"] (spIsRow K) := by
  refine F.ok scIsRow (fun vs H Q E h => ?_) (fun cdv A outer s H vs Q E hr h => ?_)
  · obtain ⟨v, d, rfl, _⟩ := h
    rfl
  · obtain ⟨v, d, rfl, hd, hlen, q⟩ := h
    refine ⟨_, (pss_one (ps_ret (pe_and (pe_callB call_isiT (by rfl) T.isinstance (by decide +kernel) (pa_cons (pv 0) (pa_cons (pe_tup (pa_cons (pe_bltn (v := V.ty "tuple") (by rfl) T.tuple (by decide +kernel) rfl) (pa_cons (pe_bltn (v := V.ty "list") (by rfl) T.list (by decide +kernel) rfl) pa_nil))) pa_nil)))
      (pe_one (pe_callB (cr_all rfl) (by rfl) hall (by decide +kernel) (pa_cons (pe_lc (own := [("item", 1)]) (g := gName 1) (tt := tYes) rfl scIsRow.nd (pi_seq (pv 0)) (blkOk_by (N := ["value", "item"]) (sc := defScope sIsRow) (by decide +kernel)) (fun _ _ _ _ _ => pg_name (i := 1) scIsRow.nd rfl (Or.inl rfl)) (fun _ _ _ _ _ => pts_nil)
        (fun _ _ _ _ _ => pe_call Gr.ok hr rfl Gr.m Gr.kp Gr.b .nil pass0 (pa_cons (pv 1) pa_nil))) pa_nil)))))), ?_⟩
    refine ⟨_, rfl, (by show 2 ≤ sizeLine; decide), fun tp ntp => ?_⟩
    have s1 : Same H (upd H tp (HO.tup [V.ty "tuple", V.ty "list"])) := same_upd ntp
    have e1 : upd H tp (HO.tup [V.ty "tuple", V.ty "list"]) tp = some (HO.tup [V.ty "tuple", V.ty "list"]) := upd_same
    generalize upd H tp (HO.tup [V.ty "tuple", V.ty "list"]) = H1 at s1 e1 ⊢
    have hd1 := hd.mono s1
    refine ⟨v, tp, _, _, [.type "tuple", .type "list"], _, rfl, e1, .cons (.ty _) (.cons (.ty _) .nil), hd1.ty, kit_seq d, _, rfl, ?_⟩
    cases hs : seqD d with
    | none =>
      refine iteF ?_
      have z := q H1 s1
      rw [rowD_none hs] at z
      exact z
    | some ds =>
      refine iteT ?_
      obtain ⟨a, xs, rfl, hsq, hds⟩ := hd1.seq hs
      have hl := hds.len
      have hl2 := hlen ds hs
      refine ⟨_, rfl, a, rfl, lc_seq (xs := xs) hsq (fun D i H2 => Same H1 H2 ∧ H2 D = some (.lst ((ds.take i).map fun d => V.bl (partsD d).isSome))) ?_ ?_ ?_ ?_⟩
      · intro D hD
        exact ⟨same_upd hD, upd_same⟩
      · intro D i H2 hD ⟨s2, _⟩
        exact ⟨same_sqL s2, same_sqT s2⟩
      · intro D i x H2 hD hi ⟨s2, e2⟩
        obtain ⟨di, h1, h2⟩ := hds.at hi
        refine ⟨rfl, ?_⟩
        refine ⟨_, rfl, x, di, rfl, h2.mono s2, fun H3 s3 => ?_⟩
        refine ⟨_, s3 _ _ e2, ?_, (fun b o e => ?_), ?_⟩
        · rw [List.length_map, List.length_take, sizeLine_eq]
          omega
        · rw [upd_ne (ne_of_none e hD)]
          exact s3 _ _ (s2 _ _ e)
        · rw [upd_same, map_take_snoc h1]
      · intro D H2 hD ⟨s2, e2⟩
        refine ⟨D, ds.map fun d => (partsD d).isSome, rfl, ?_, ?_⟩
        · rw [List.map_map]
          refine SqL.of ?_
          rw [e2, hl, List.take_length]
          rfl
        · rw [mapM_all]
          have z := q H2 (s1.trans s2)
          rw [rowD_seq hs] at z
          exact z
theorem scPolyI : FnScope ["self", "numbers", "row", "number"] ["self", "numbers"] (defScope sPolyI) := ⟨rfl, rfl, rfl, by decide +kernel, rfl, by decide +kernel, by decide +kernel⟩
theorem ok_poly_init {f : Addr} {fd : FuncData} (F : Fun K "__init__" "Poly.__init__" sPolyI f fd) (T : Bk mg) (C : PoC K mg CP) (N : Ex P w K mg base "BadRow" CR ["row"]) (Gi : Df P w K mg base "is_ratio_row" 3 ["value"] (spIsRow K)) (Gt : Dx P w K mg base "told" 4 ["value", "what"] (spTold K CN)) :
    FnOk P w K mg base (L2.CX P w) 5 f fd ["self", "numbers"] (spPolyI K CP CR) := by
  refine F.okX scPolyI (fun vs H Q E h => ?_) (fun cdv A outer s H vs Q E hr h => ?_)
  · obtain ⟨x, dx, v, d, rfl, _⟩ := h
    rfl
  · obtain ⟨x, dx, v, d, rfl, hx, hd, hlen, q, e⟩ := h
    refine ⟨_, (pss_cons (ps_if (pt_not (pt_val (pe_call Gi.ok (hr.mono (by decide)) rfl Gi.m Gi.kp Gi.b .nil pass0 (pa_cons (pv 1) pa_nil))))
        (pss_one (ps_raise rfl (takes_of rfl rfl rfl rfl) (pmk_oex N.ox N.iC N.tI N.ok (hr.mono (by decide)) N.b .nil pass0 (by rfl) N.m (pa_cons (pv 1) pa_nil))))
        pss_nil)
      (PSs.nox (pss_cons (ps_setLc (i := 2) (own := [("number", 3)]) (g := gName 3) (tt := tYes) rfl scPolyI.nd rfl rfl (sw_true rfl rfl rfl (by decide +kernel)) (pi_seq (pv 1)) (blkOk_by (N := ["self", "numbers", "row", "number"]) (sc := defScope sPolyI) (by decide +kernel)) (fun _ _ _ _ _ => pg_name (i := 3) scPolyI.nd rfl (Or.inl rfl)) (fun _ _ _ _ _ => pts_nil)
          (fun _ _ _ _ _ => pe_call Gt.ok hr rfl Gt.m Gt.kp Gt.b .nil passL (pa_cons (pv 3) (pa_cons pe_str pa_nil))))
      (pss_cons (ps_while PassesOwn.never (PW.pt (pw_and (pt_truth (pv 2) (by intro _; rfl)) (pw_and1 (pt_cmpR op_eq (pe_ix ix_tup (pe_ix ix_list (pv 2) (pe_un un_neg pe_int) (fun _ _ => rfl)) pe_int (fun _ _ => rfl)) pe_int (nomark _)))))
        (pss_one (ps_expr (pe_bm0 PySem.F.plainAttrs_list PySem.F.slot_list_pop PySem.F.type_list_pop mt_pop (pv 2)))))
      (pss_one (ps_fld (pv 0) (pe_callTy call_tuple_of (by rfl) T.tuple (by decide +kernel) (pa_cons (pv 2) pa_nil)) rfl)))))), ?_⟩
    refine ⟨_, rfl, v, d, rfl, hd, hlen, fun H1 s1 => ⟨_, rfl, ?_⟩⟩
    have hd1 := hd.mono s1
    cases hp : rowD d with
    | none =>
      refine iteT ?_
      refine ⟨_, rfl, (by show 1 ≤ 1000; decide), ?_⟩
      exact raise_end rfl fun dd H' s2 n e2 => (e hp).same s1 dd H' s2 n e2
    | some ps =>
      refine iteF ?_
      obtain ⟨hbig, q⟩ := q ps hp
      obtain ⟨ds, hs⟩ : ∃ ds, seqD d = some ds := by
        cases hs : seqD d with
        | none => rw [rowD_none hs] at hp; cases hp
        | some ds => exact ⟨ds, rfl⟩
      have hm := hp
      rw [rowD_seq hs] at hm
      obtain ⟨ml, mi⟩ := mapM_some hm
      obtain ⟨a, xs, rfl, hsq, hds⟩ := hd1.seq hs
      have hl := hds.len
      have hl2 := hlen ds hs
      refine ⟨_, rfl, a, rfl, lc_seq (xs := xs) hsq (fun D i H2 => Same H1 H2 ∧ ∃ as, H2 D = some (.lst (as.map V.ref)) ∧ Tups H2 as ((ps.map lowP).take i)) ?_ ?_ ?_ ?_⟩
      · intro D hD
        exact ⟨same_upd hD, [], upd_same, .nil⟩
      · intro D i H2 hD ⟨s2, _⟩
        exact ⟨same_sqL s2, same_sqT s2⟩
      · intro D i y H2 hD hi ⟨s2, as, e2, t2⟩
        obtain ⟨di, h1, h2⟩ := hds.at hi
        obtain ⟨p, h3, h4⟩ := mi i di h1
        obtain ⟨t, b⟩ := p
        refine ⟨rfl, ?_⟩
        refine ⟨_, rfl, y, .str "number", di, rfl, h2.mono s2, fun t' b' hp' => ?_, fun z => by rw [h4] at z; cases z⟩
        rw [h4] at hp'
        cases hp'
        refine ⟨hbig (t, b) (List.mem_of_getElem? h3), fun r H3 s3 e3 => ?_⟩
        have rD : r ≠ D := ne_of e3 (s3 _ _ e2) (by intro z; cases z)
        have up : ∀ (a : Addr) (p : Int × Int), H3 a = some (.tup [.int p.1, .int p.2]) → upd H3 D (.lst (as.map V.ref ++ [V.ref r])) a = some (.tup [.int p.1, .int p.2]) := fun a p z => by
          rw [upd_ne (ne_of z (s3 _ _ e2) (by intro z; cases z))]
          exact z
        refine ⟨_, s3 _ _ e2, ?_, (fun b o e => ?_), as ++ [r], ?_, ?_⟩
        · have := t2.len
          rw [List.length_take, List.length_map] at this
          rw [List.length_map, sizeLine_eq]
          omega
        · rw [upd_ne (ne_of_none e hD)]
          exact s3 _ _ (s2 _ _ e)
        · rw [upd_same, List.map_append]
          rfl
        · rw [List.take_succ, List.getElem?_map, h3]
          exact ((t2.same s3).imp up).snoc (up _ _ e3)
      · intro lr H2 nlr ⟨s2, as, e2, t2⟩
        have tk : (ps.map lowP).take xs.length = ps.map lowP := by
          rw [hl, ml]
          exact List.take_of_length_le (by rw [List.length_map]; exact Nat.le_refl _)
        rw [tk] at t2
        refine ⟨fun m σ H3 => ∃ as qs, m = List.length as ∧ (∃ v3, σ = [some (.ref x), some (.ref a), some (.ref lr), v3]) ∧ Same H1 H3 ∧ H3 lr = some (.lst (as.map V.ref)) ∧ Tups H3 as qs ∧ strip qs = strip (ps.map lowP) ∧ as.length ≤ 1000, ⟨_, as, _, rfl, ⟨_, rfl⟩, s2, e2, t2, rfl, ?_⟩, ?_⟩
        · have := t2.len
          rw [List.length_map] at this
          omega
        · rintro m σ H3 ⟨as, qs, rfl, ⟨v3, rfl⟩, s3, e3, t3, hst, hz⟩
          have fin : strip qs = qs → sFld K (tVar 0) (tCB (fun xs H Q => ∃ p ys, xs = [.ref p] ∧ ((SqL K H p ys ∧ ∀ l, H l = none → Q (.ref l) (upd H l (.tup ys))) ∨ (SqT K H p ys ∧ Q (.ref p) H))) (tCons (tVar 2) tNil)) "numbers" { nx := fun _ H' => Q .non H', rt := Q } [some (.ref x), some (.ref a), some (.ref lr), v3] H3 := fun hqs => by
            refine ⟨_, rfl, lr, _, rfl, .inl ⟨SqL.of e3, fun tq ntq => ?_⟩⟩
            have hx3 := s3 _ _ (s1 _ _ hx)
            have hxq : x ≠ tq := ne_of_none hx3 ntq
            refine ⟨_, rfl, x, CP, dx, [], rfl, (by rw [upd_ne hxq]; exact hx3), C.cl, C.nf, (by decide), ?_⟩
            refine q _ (fun b o nb eb => ?_) ⟨dx, tq, as, upd_same, (by rw [upd_ne hxq.symm]; exact upd_same), ?_⟩
            · have eb3 := s3 _ _ (s1 _ _ eb)
              rw [upd_ne nb, upd_ne (ne_of_none eb3 ntq)]
              exact eb3
            · rw [← hst, hqs]
              refine t3.imp fun c p z => ?_
              rw [upd_ne (ne_of z hx3 (by intro z; cases z)), upd_ne (ne_of_none z ntq)]
              exact z
          rcases snoc_cases qs with rfl | ⟨qs, y, rfl⟩
          · cases t3
            refine ⟨_, rfl, false, .inl ⟨[], SqL.of e3, rfl⟩, ?_⟩
            refine iteF ?_
            refine iteF ?_
            exact fin strip_nil
          · obtain ⟨as', r, rfl, t4, er⟩ := t3.unsnoc
            refine ⟨_, rfl, true, .inl ⟨_, SqL.of e3, by simp⟩, ?_⟩
            refine iteT ?_
            refine ⟨_, rfl, _, rfl, lr, _, _, .ref r, rfl, rfl, SqL.of e3, (by rw [List.map_append]; exact atI_last _ _), r, _, _, .int y.1, rfl, rfl, SqT.of er, at_of (j := 0) rfl rfl, rfl, _, rfl, ?_⟩
            by_cases y0 : y.1 = 0
            · rw [decide_eq_true (by rw [y0])]
              refine iteT ?_
              refine ⟨fun σ' H' => ∃ qs', (∃ v3, σ' = [some (.ref x), some (.ref a), some (.ref lr), v3]) ∧ Same H1 H' ∧ H' lr = some (.lst (as'.map V.ref)) ∧ Tups H' as' qs' ∧ strip qs' = strip (ps.map lowP) ∧ as'.length ≤ 1000, fun σ' H' ⟨qs', h1, h2, h3, h4, h5, h6⟩ => ⟨as'.length, by rw [List.length_append]; simp, as', qs', rfl, h1, h2, h3, h4, h5, h6⟩, ?_⟩
              refine ⟨_, rfl, .inl ⟨rfl, _, SqL.of e3⟩, lr, _, .ref r, rfl, rfl, e3, ?_, ?_⟩
              · simp
              · refine ⟨qs, ⟨_, rfl⟩, fun b o eb => ?_, ?_, ?_, ?_, ?_⟩
                · rw [upd_ne (ne_of_none eb nlr)]
                  exact s3 _ _ eb
                · rw [upd_same, List.map_append]
                  simp
                · refine t4.imp fun c p z => ?_
                  rw [upd_ne (ne_of z e3 (by intro z; cases z))]
                  exact z
                · rw [strip_snoc, if_pos y0] at hst
                  exact hst
                · rw [List.length_append] at hz
                  omega
            · rw [decide_eq_false (fun z => y0 (by have z2 := V.int.inj z; exact z2))]
              refine iteF ?_
              exact fin (by rw [strip_snoc, if_neg y0])
def spPolyE (K : PySem.W.Frag) (CP : Addr) : Sp := fun vs H Q _ => ∃ (a : Addr) (rs : List (Int × Int)) (v : V), vs = [.ref a, v] ∧ PolyAt K CP H a rs ∧
  ((∃ (b : Addr) (rs2 : List (Int × Int)), v = .ref b ∧ PolyAt K CP H b rs2 ∧ Q (.bl (decide (rs = rs2))) H) ∨ (∃ d, Dt K H v d ∧ Q (.bl false) H))
def spPolyD (K : PySem.W.Frag) (CP : Addr) : Sp := fun vs H Q _ => ∃ (a : Addr) (rs : List (Int × Int)), vs = [.ref a] ∧ PolyAt K CP H a rs ∧ Q (.int ((rs.length : Int) - 1)) H
def leadP (rs : List (Int × Int)) : Int × Int := rs.getLast?.getD (0, 1)
def spPolyL (K : PySem.W.Frag) (CP : Addr) : Sp := fun vs H Q _ => ∃ (a : Addr) (rs : List (Int × Int)), vs = [.ref a] ∧ PolyAt K CP H a rs ∧ ∀ (r : Addr) (H' : Hp), Same H H' → H' r = some (.tup [.int (leadP rs).1, .int (leadP rs).2]) → Q (.ref r) H'
theorem scPolyE : FnScope ["self", "other"] ["self", "other"] (defScope sPolyE) := ⟨rfl, rfl, rfl, by decide +kernel, rfl, by decide +kernel, by decide +kernel⟩
theorem ok_poly_eq {f : Addr} {fd : FuncData} (F : Fun K "__eq__" "Poly.__eq__" sPolyE f fd) (T : Bk mg) (hm1 : M1 base) (C : PoC K mg CP) : FnOk P w K mg base CX0 1 f fd ["self", "other"] (spPolyE K CP) := by
  refine F.ok scPolyE (fun vs H Q E h => ?_) (fun cdv A outer s H vs Q E hr h => ?_)
  · obtain ⟨a, rs, v, rfl, _⟩ := h
    rfl
  · obtain ⟨a, rs, v, rfl, ha, q⟩ := h
    refine ⟨_, (pss_one (ps_ret (pe_and (pe_callB call_isi (by rfl) T.isinstance (by decide +kernel) (pa_cons (pv 1) (pa_cons (pe_glob (v := V.ref CP) rfl C.m rfl) pa_nil))) (pe_one (pe_cmpR (op_eqT hr.units hm1) (pe_fld (pv 0) rfl) (pe_fld (pv 1) rfl) (nomark _)))))), ?_⟩
    rcases q with ⟨b, rs2, rfl, hb, q⟩ | ⟨d, hd, q⟩
    · refine ⟨_, rfl, .ref b, .ref CP, _, .ref CP, _, rfl, .own _, hb.ty C, C.io, _, rfl, ?_⟩
      refine iteT ?_
      obtain ⟨dx, t, as, h1, h2, h3⟩ := ha
      obtain ⟨dx2, t2, as2, g1, g2, g3⟩ := hb
      refine ⟨_, rfl, a, CP, dx, _, .ref t, rfl, h1, C.cl, C.nf, (by kernel_rfl), _, rfl, b, CP, dx2, _, .ref t2, rfl, g1, C.cl, C.nf, (by kernel_rfl), ?_⟩
      refine ⟨.tuple (rs.map pairD), .tuple (rs2.map pairD), .tup (SqT.of h2) h3.dts, .tup (SqT.of g2) g3.dts, (plain_row _).1, (plain_row _).1, (depth_row _).1, ?_⟩
      rw [eqv_row]
      exact q
    · refine ⟨_, rfl, v, .ref CP, _, .ref CP, _, rfl, .own _, hd.ty, C.no d, _, rfl, ?_⟩
      refine iteF ?_
      exact q
theorem scPolyD : FnScope ["self"] ["self"] (defScope sPolyD) := ⟨rfl, rfl, rfl, by decide +kernel, rfl, by decide +kernel, by decide +kernel⟩
theorem ok_poly_degree {f : Addr} {fd : FuncData} (F : Fun K "degree" "Poly.degree" sPolyD f fd) (T : Bk mg) (C : PoC K mg CP) : FnOk P w K mg base CX0 1 f fd ["self"] (spPolyD K CP) := by
  refine F.ok scPolyD (fun vs H Q E h => ?_) (fun cdv A outer s H vs Q E hr h => ?_)
  · obtain ⟨a, rs, rfl, _⟩ := h
    rfl
  · obtain ⟨a, rs, rfl, ⟨dx, t, as, h1, h2, h3⟩, q⟩ := h
    refine ⟨_, (pss_one (ps_ret (pe_op op_sub (pe_callB call_len_seq (by rfl) T.len (by decide +kernel) (pa_cons (pe_fld (pv 0) rfl) pa_nil)) pe_int))), ?_⟩
    refine ⟨_, rfl, a, CP, dx, _, .ref t, rfl, h1, C.cl, C.nf, (by kernel_rfl), t, _, rfl, .inr (SqT.of h2), _, _, rfl, rfl, ?_⟩
    rw [List.length_map, h3.len]
    exact q
end

end Vf

set_option maxRecDepth 100000
set_option maxHeartbeats 8000000
namespace Vf
open PySem PySem.Spec PyProof.Rows L2
/-! ### the program's rows -/
/-- a row, a list or a tuple, of the pairs of these numbers -/
def RS (K : PySem.W.Frag) (H : Hp) (l : Addr) (qs : List Rat) : Prop := ∃ as, (SqL K H l (as.map V.ref) ∨ SqT K H l (as.map V.ref)) ∧ Tups H as (qs.map pq)
theorem RS.same {K : PySem.W.Frag} {H H' : Hp} {l : Addr} {qs : List Rat} (h : RS K H l qs) (s : Same H H') : RS K H' l qs := by
  obtain ⟨as, e, t⟩ := h
  exact ⟨as, e.imp (same_sqL s) (same_sqT s), t.same s⟩
theorem RS.of {K : PySem.W.Frag} {H : Hp} {l : Addr} {qs : List Rat} (h : RL H l qs) : RS K H l qs := by
  obtain ⟨as, e, t⟩ := h
  exact ⟨as, .inl (SqL.of e), t⟩
theorem low_Z {q : Rat} : low q.num q.den = pq q := low_id (pq_low q)
theorem parts_q (q : Rat) : partsD (pairD (pq q)) = some (q.num, (q.den : Int)) := by
  show (if 0 < (q.den : Int) then some (q.num, (q.den : Int)) else none) = _
  rw [if_pos (by have := q.den_pos; omega)]
/-- below 2 ^ 200 above and below -/
def Z2 (q : Rat) : Prop := Sz q.num ∧ Sz (q.den : Int)
theorem z2_zero : Z2 0 := ⟨by show (0 : Nat) < 2 ^ 200; decide +kernel, by show (1 : Nat) < 2 ^ 200; decide +kernel⟩
theorem z2_neg {q : Rat} (h : Z2 q) : Z2 (-q) := by
  refine ⟨?_, ?_⟩
  · show (-q).num.natAbs < _
    rw [Rat.neg_num, Int.natAbs_neg]
    exact h.1
  · show ((-q).den : Int).natAbs < _
    rw [Rat.neg_den]
    exact h.2
def rIxS (K : PySem.W.Frag) : R2 := fun x y H Q => ∃ p xs i v, x = .ref p ∧ y = .int i ∧ (SqL K H p xs ∨ SqT K H p xs) ∧ atI xs i = some v ∧ Q v H
theorem ix_seq {X : Cx} : IxR X (rIxS X.K) := by
  intro value slice pins s σ H x y v u Q I rx ry h hs
  obtain ⟨p, xs, i, z, e1, e2, hq, he, q⟩ := h
  rcases hq with hq | hq
  · exact ix_list value slice pins s σ H x y v u Q I rx ry ⟨p, xs, i, z, e1, e2, hq, he, q⟩ hs
  · exact ix_tup value slice pins s σ H x y v u Q I rx ry ⟨p, xs, i, z, e1, e2, hq, he, q⟩ hs
theorem RS.getQ {K : PySem.W.Frag} {H : Hp} {l : Addr} {qs : List Rat} (h : RS K H l qs) : ∃ xs : List V, (SqL K H l xs ∨ SqT K H l xs) ∧ xs.length = qs.length ∧ ∀ i, i < qs.length → ∃ a, xs[i]? = some (.ref a) ∧ TR H a (cf qs i) := by
  obtain ⟨as, e, t⟩ := h
  refine ⟨_, e, by rw [List.length_map, t.lenQ], fun i hi => ?_⟩
  obtain ⟨a, h1, h2⟩ := t.getQ hi
  exact ⟨a, by rw [List.getElem?_map, h1]; rfl, h2⟩
def spNumOf (K : PySem.W.Frag) : Sp := fun vs H Q _ => ∃ (l : Addr) (a : List Rat) (i : Nat), vs = [.ref l, .int i] ∧ RS K H l a ∧ ∀ (r : Addr) (H' : Hp), Same H H' → TR H' r (cf a i) → Q (.ref r) H'
def spSums (K : PySem.W.Frag) : Sp := fun vs H Q _ => ∃ (l1 l2 : Addr) (a b : List Rat), vs = [.ref l1, .ref l2] ∧ RS K H l1 a ∧ RS K H l2 b ∧ a.length ≤ 500 ∧ b.length ≤ 500 ∧ (∀ i, Z2 (cf a i)) ∧ (∀ i, Z2 (cf b i)) ∧ ∀ (l : Addr) (H' : Hp), Same H H' → RL H' l (padd a b) → Q (.ref l) H'
def spOpp (K : PySem.W.Frag) : Sp := fun vs H Q _ => ∃ (l1 : Addr) (a : List Rat), vs = [.ref l1] ∧ RS K H l1 a ∧ a.length ≤ 500 ∧ ∀ (l : Addr) (H' : Hp), Same H H' → RL H' l (a.map (- ·)) → Q (.ref l) H'
section
variable {P : Program} {w : World} {K : PySem.W.Frag} {mg : Str → Option Value} {base : Heap} {CP CR CN : Addr}
abbrev sNumOf : Stmt := topS 25
abbrev sSums : Stmt := topS 26
abbrev sOpp : Stmt := topS 27
theorem scNumOf : FnScope ["numbers", "power"] ["numbers", "power"] (defScope sNumOf) := ⟨rfl, rfl, rfl, by decide +kernel, rfl, by decide +kernel, by decide +kernel⟩
theorem ok_num_of {f : Addr} {fd : FuncData} (F : Fun K "number_of" "number_of" sNumOf f fd) (T : Bk mg) : FnOk P w K mg base CX0 1 f fd ["numbers", "power"] (spNumOf K) := by
  refine F.ok scNumOf (fun vs H Q E h => ?_) (fun cdv A outer s H vs Q E hr h => ?_)
  · obtain ⟨l, a, i, rfl, _⟩ := h
    rfl
  · obtain ⟨l, a, i, rfl, hl, q⟩ := h
    refine ⟨_, (pss_one (ps_ret (pe_ifExp (pt_cmpR op_lt (pv 1) (pe_callB call_len_seq (by rfl) T.len (by decide +kernel) (pa_cons (pv 0) pa_nil)) (nomark _)) (pe_ix ix_seq (pv 0) (pv 1) (fun _ _ => rfl)) (pe_tup (pa_cons pe_int (pa_cons pe_int pa_nil)))))), ?_⟩
    obtain ⟨xs, hx, hn, get⟩ := hl.getQ
    refine ⟨_, rfl, _, rfl, l, xs, rfl, hx, _, _, rfl, rfl, _, rfl, ?_⟩
    rw [hn]
    by_cases hi : i < a.length
    · rw [decide_eq_true (show (i : Int) < (a.length : Nat) by omega)]
      refine iteT ?_
      obtain ⟨r, h1, h2⟩ := get i hi
      exact ⟨_, rfl, _, rfl, l, xs, _, _, rfl, rfl, hx, at_of (j := i) rfl h1, q r H (Same.refl _) h2⟩
    · rw [decide_eq_false (show ¬(i : Int) < (a.length : Nat) by omega)]
      refine iteF ?_
      refine ⟨(by show 2 ≤ sizeLine; decide), fun t nt => q t _ (same_upd nt) ?_⟩
      rw [cf_ge (by omega)]
      exact tr_zero upd_same
theorem scSums : FnScope ["one", "other", "powers", "power"] ["one", "other"] (defScope sSums) := ⟨rfl, rfl, rfl, by decide +kernel, rfl, by decide +kernel, by decide +kernel⟩
theorem ok_sums {f : Addr} {fd : FuncData} (F : Fun K "sums_of" "sums_of" sSums f fd) (T : Bk mg) (hmax : mg "max" = none) (Gn : Df P w K mg base "number_of" 1 ["numbers", "power"] (spNumOf K)) (Gp : Dx P w K mg base "plus" 4 ["one", "other"] (spTwo K CN (okLow gPlus))) : FnOk P w K mg base (L2.CX P w) 5 f fd ["one", "other"] (spSums K) := by
  refine F.okX scSums (fun vs H Q E h => ?_) (fun cdv A outer s H vs Q E hr h => ?_)
  · obtain ⟨l1, l2, a, b, rfl, _⟩ := h
    rfl
  · obtain ⟨l1, l2, a, b, rfl, h1, h2, la, lb, za, zb, q⟩ := h
    refine ⟨_, (pss_cons (ps_set (i := 2) scSums.nd rfl (Or.inl rfl) (pe_callTy cr_range1 (by rfl) T.range (by decide +kernel) (pa_cons (pe_callB (call_max2 rfl) (by rfl) hmax (by decide +kernel) (pa_cons (pe_callB call_len_seq (by rfl) T.len (by decide +kernel) (pa_cons (pv 0) pa_nil)) (pa_cons (pe_callB call_len_seq (by rfl) T.len (by decide +kernel) (pa_cons (pv 1) pa_nil)) pa_nil))) pa_nil)))
      (pss_one (ps_ret (pe_lc (own := [("power", 3)]) (g := gName 3) (tt := tYes) rfl scSums.nd (pi_rng (pv 2)) (blkOk_by (N := ["one", "other", "powers", "power"]) (sc := defScope sSums) (by decide +kernel)) (fun _ _ _ _ _ => pg_name (i := 3) scSums.nd rfl (Or.inl rfl)) (fun _ _ _ _ _ => pts_nil)
        (fun _ _ _ _ _ => (pe_call Gp.ok (hr.mono (by decide)) rfl Gp.m Gp.kp Gp.b .nil passL (pa_cons (pe_call Gn.ok (hr.mono (by decide)) rfl Gn.m Gn.kp Gn.b .nil pass0 (pa_cons (pv 0) (pa_cons (pv 3) pa_nil))) (pa_cons (pe_call Gn.ok (hr.mono (by decide)) rfl Gn.m Gn.kp Gn.b .nil pass0 (pa_cons (pv 1) (pa_cons (pv 3) pa_nil))) pa_nil)))))))), ?_⟩
    obtain ⟨xs, hx, hn, _⟩ := h1.getQ
    obtain ⟨ys, hy, hm, _⟩ := h2.getQ
    refine ⟨_, rfl, l1, xs, rfl, hx, _, rfl, l2, ys, rfl, hy, _, _, rfl, ?_⟩
    rw [hn, hm]
    have em : (if ((b.length : Nat) : Int) > ((a.length : Nat) : Int) then ((b.length : Nat) : Int) else ((a.length : Nat) : Int)) = ((max a.length b.length : Nat) : Int) := by split <;> omega
    rw [em]
    generalize hmx : max a.length b.length = n
    refine ⟨_, rfl, fun p np => ?_⟩
    have ep : upd H p (HO.rng 0 (n : Int)) p = some (HO.rng 0 (n : Int)) := upd_same
    have s1 : Same H (upd H p (HO.rng 0 (n : Int))) := same_upd np
    generalize upd H p (HO.rng 0 (n : Int)) = H1 at ep s1 ⊢
    refine ⟨_, rfl, p, 0, n, rfl, ep, by omega, fun D hD => ?_⟩
    rw [show ((n : Int) - 0).toNat = n by omega]
    refine lc_range (lo := 0) (n := n) (fun i H' => Same H1 H' ∧ ∃ zs, H' D = some (.lst (zs.map V.ref)) ∧ Tups H' zs ((tab i fun j => cf a j + cf b j).map pq)) ⟨same_upd hD, [], upd_same, .nil⟩ ?_ ?_
    · rintro i H' hi ⟨ss, zs, eD, tz⟩
      have e0 : (0 + (i : Int)) = (i : Int) := by omega
      refine ⟨rfl, ?_⟩
      rw [e0]
      refine ⟨_, rfl, _, rfl, l1, a, i, rfl, (h1.same s1).same ss, fun ra H2 s2 tra => ?_⟩
      refine ⟨_, rfl, _, rfl, l2, b, i, rfl, ((h2.same s1).same ss).same s2, fun rb H3 s3 trb => ?_⟩
      refine ⟨_, _, pairD (pq (cf a i)), pairD (pq (cf b i)), rfl, .tup (SqT.of (s3 _ _ tra)) (.cons (.int _) (.cons (.int _) .nil)), .tup (SqT.of trb) (.cons (.int _) (.cons (.int _) .nil)), fun t b' x c h3 h4 => ?_, (fun z => by rw [parts_q] at z; cases z), (fun _ z => by rw [parts_q] at z; cases z)⟩
      rw [parts_q] at h3 h4
      cases h3
      cases h4
      refine ⟨(za i).1, (za i).2, (zb i).1, (zb i).2, fun r' H'' s' er => ?_⟩
      have er : TR H'' r' (cf a i + cf b i) := by
        have z := low_add (cf a i) (cf b i)
        unfold gPlus at er
        rw [z] at er
        exact er
      have eD' := s' _ _ (s3 _ _ (s2 _ _ eD))
      refine ⟨_, eD', ?_, (fun b' o' e' => ?_), zs ++ [r'], ?_, ?_⟩
      · have := tz.lenQ
        rw [tab_len] at this
        rw [List.length_map, sizeLine_eq]
        omega
      · rw [upd_ne (ne_of_none e' hD)]
        exact s' _ _ (s3 _ _ (s2 _ _ (ss _ _ e')))
      · rw [upd_same, List.map_append]
        rfl
      · rw [tab_snoc]
        have up : ∀ (c : Addr) (p : Int × Int), H'' c = some (.tup [.int p.1, .int p.2]) → upd H'' D (.lst (zs.map V.ref ++ [V.ref r'])) c = some (.tup [.int p.1, .int p.2]) := fun c p z => by
          rw [upd_ne (ne_of z eD' (by intro z; cases z))]
          exact z
        exact Tups.snocQ ((((tz.same s2).same s3).same s').imp up) (up _ (pq _) er)
    · rintro H' ⟨ss, zs, eD, tz⟩
      refine q D H' (s1.trans ss) ⟨zs, eD, ?_⟩
      unfold padd
      rw [hmx]
      exact tz
theorem scOpp : FnScope ["numbers", "top", "bottom"] ["numbers"] (defScope sOpp) := ⟨rfl, rfl, rfl, by decide +kernel, rfl, by decide +kernel, by decide +kernel⟩
theorem ok_opp {f : Addr} {fd : FuncData} (F : Fun K "opposites_of" "opposites_of" sOpp f fd) : FnOk P w K mg base CX0 1 f fd ["numbers"] (spOpp K) := by
  refine F.ok scOpp (fun vs H Q E h => ?_) (fun cdv A outer s H vs Q E hr h => ?_)
  · obtain ⟨l1, a, rfl, _⟩ := h
    rfl
  · obtain ⟨l1, a, rfl, ⟨as, e1, t1⟩, la, q⟩ := h
    refine ⟨_, (pss_one (ps_ret (pe_lc (own := [("top", 1), ("bottom", 2)]) (g := gTup K 2 (gCons (gName 1) (gCons (gName 2) gNil))) (tt := tYes) rfl scOpp.nd (pi_seq (pv 0)) (blkOk_by (N := ["numbers", "top", "bottom"]) (sc := defScope sOpp) (by decide +kernel)) (fun _ _ _ _ _ => pg_tup rfl (pgs_cons (pg_name (i := 1) scOpp.nd rfl (Or.inl rfl)) (pgs_cons (pg_name (i := 2) scOpp.nd rfl (Or.inl rfl)) pgs_nil))) (fun _ _ _ _ _ => pts_nil)
      (fun _ _ _ _ _ => (pe_tup (pa_cons (pe_un un_neg (pv 1)) (pa_cons (pv 2) pa_nil))))))), ?_⟩
    have n1 := t1.lenQ
    refine ⟨_, rfl, l1, rfl, lc_seq (xs := as.map V.ref) e1 (fun D i H' => Same H H' ∧ ∃ zs, H' D = some (.lst (zs.map V.ref)) ∧ Tups H' zs ((tab i fun j => -cf a j).map pq)) ?_ ?_ ?_ ?_⟩
    · intro D hD
      exact ⟨same_upd hD, [], upd_same, .nil⟩
    · intro D i H2 hD ⟨s2, _⟩
      exact ⟨same_sqL s2, same_sqT s2⟩
    · intro D i x H' hD hi ⟨ss, zs, eD, tz⟩
      rw [List.getElem?_map] at hi
      cases hr0 : as[i]? with
      | none => rw [hr0] at hi; cases hi
      | some r =>
        rw [hr0] at hi
        cases hi
        obtain ⟨qq, hq1, hq2⟩ := t1.atQ hr0
        have hc := cf_get hq1
        refine ⟨r, _, rfl, SqT.of (ss _ _ hq2), rfl, _, _, rfl, _, _, rfl, rfl, rfl, ?_⟩
        refine ⟨_, rfl, _, rfl, _, rfl, (by show 2 ≤ sizeLine; decide), fun t nt => ?_⟩
        have et : TR (upd H' t (HO.tup [V.int (-qq.num), V.int (qq.den : Int)])) t (-cf a i) := by
          rw [hc]
          unfold TR
          rw [upd_same, Rat.neg_num, Rat.neg_den]
        have st : Same H' (upd H' t (HO.tup [V.int (-qq.num), V.int (qq.den : Int)])) := same_upd nt
        generalize upd H' t (HO.tup [V.int (-qq.num), V.int (qq.den : Int)]) = H2 at et st ⊢
        have eD' := st _ _ eD
        refine ⟨_, eD', ?_, (fun b' o' e' => ?_), zs ++ [t], ?_, ?_⟩
        · have := tz.lenQ
          have := (List.getElem?_eq_some_iff.mp hr0).1
          rw [tab_len] at *
          rw [List.length_map, sizeLine_eq]
          omega
        · rw [upd_ne (ne_of_none e' hD)]
          exact st _ _ (ss _ _ e')
        · rw [upd_same, List.map_append]
          rfl
        · rw [tab_snoc]
          have up : ∀ (c : Addr) (p : Int × Int), H2 c = some (.tup [.int p.1, .int p.2]) → upd H2 D (.lst (zs.map V.ref ++ [V.ref t])) c = some (.tup [.int p.1, .int p.2]) := fun c p z => by
            rw [upd_ne (ne_of z eD' (by intro z; cases z))]
            exact z
          exact Tups.snocQ ((tz.same st).imp up) (up t (pq (-cf a i)) et)
    · intro D H' hD ⟨ss, zs, eD, tz⟩
      rw [List.length_map, n1] at tz
      have e : (tab a.length fun j => -cf a j) = a.map (- ·) := by
        refine List.ext_getElem? fun i => ?_
        unfold tab
        rw [List.getElem?_map, List.getElem?_map]
        by_cases h : i < a.length
        · rw [List.getElem?_range h, List.getElem?_eq_getElem h]
          show some (-cf a i) = some (-a[i])
          rw [cf_lt h]
        · rw [List.getElem?_eq_none_iff.mpr (by rw [List.length_range]; omega), List.getElem?_eq_none_iff.mpr (by omega)]
          rfl
      rw [e] at tz
      exact q D H' ss ⟨zs, eD, tz⟩
end

end Vf

set_option maxRecDepth 100000
set_option maxHeartbeats 8000000
namespace Vf
open PySem PySem.Spec PyProof.Rows L2
/-! ### rows over one bottom -/
/-- the numbers of a Poly of the law -/
def Sm (q : Rat) : Prop := q.num.natAbs ≤ 2 ^ 13 ∧ q.den ≤ 2 ^ 12
theorem sm_zero' : Sm 0 := ⟨Nat.zero_le _, by show 1 ≤ 2 ^ 12; decide⟩
theorem num_den (q : Rat) : q * ((q.den : Nat) : Rat) = ((q.num : Int) : Rat) := by
  obtain ⟨n, e, h⟩ := Fr.self q
  have h0 : (q.den : Rat) ≠ 0 := by
    have := q.den_nz
    exact_mod_cast this
  have z : (q.num : Rat) / (q.den : Rat) = q := by
    have := Rat.num_divInt_den q
    rw [Rat.divInt_eq_div] at this
    exact_mod_cast this
  have := Rat.div_mul_cancel (a := (q.num : Rat)) h0
  rw [z] at this
  exact this
theorem over_one {q : Rat} {b : Nat} (h : q.den ∣ b) : q * (b : Rat) = ((q.num * ((b : Int) / (q.den : Int)) : Int) : Rat) := by
  obtain ⟨k, rfl⟩ := h
  have e : ((q.den * k : Nat) : Int) / (q.den : Int) = (k : Int) := by
    have := q.den_nz
    rw [Int.natCast_mul, Int.mul_ediv_cancel_left _ (by omega)]
  rw [e]
  have e2 : ((q.den * k : Nat) : Rat) = (q.den : Rat) * (k : Rat) := by exact_mod_cast rfl
  have e3 : ((q.num * (k : Int) : Int) : Rat) = (q.num : Rat) * (k : Rat) := by exact_mod_cast rfl
  rw [e2, e3, ← Rat.mul_assoc, num_den]
def spOver (K : PySem.W.Frag) : Sp := fun vs H Q _ => ∃ (l : Addr) (as : List Addr) (a : List Rat), vs = [.ref l] ∧ SqT K H l (as.map V.ref) ∧ Tups H as (a.map pq) ∧ a.length ≤ 13 ∧ (∀ i, Sm (cf a i)) ∧
  ∀ (r l' : Addr) (ns : List Int) (b : Nat) (H' : Hp), Same H H' → H' r = some (.tup [.ref l', .int (b : Int)]) → H' l' = some (.lst (ns.map V.int)) → 0 < b → b ≤ 2 ^ 156 → ns.length = a.length → (∀ i, cf a i * (b : Rat) = ((ci ns i : Int) : Rat)) → (∀ i, (ci ns i).natAbs ≤ 2 ^ 169) → Q (.ref r) H'
section
variable {P : Program} {w : World} {K : PySem.W.Frag} {mg : Str → Option Value} {base : Heap} {CP CR CN : Addr}
abbrev sOver : Stmt := topS 29
theorem scOver : FnScope ["numbers", "below", "number", "top", "bottom"] ["numbers"] (defScope sOver) := ⟨rfl, rfl, rfl, by decide +kernel, rfl, by decide +kernel, by decide +kernel⟩
theorem lt_4000 {b : Nat} {k : Nat} (h : b ≤ 2 ^ k) (hk : k < 3900) : b < 2 ^ 3900 := Nat.lt_of_le_of_lt h (Nat.pow_lt_pow_right (by decide) hk)
theorem ok_over {f : Addr} {fd : FuncData} (F : Fun K "over_one_bottom" "over_one_bottom" sOver f fd) (hlcm : mg "lcm" = some (.builtin "math.lcm")) : FnOk P w K mg base CX0 1 f fd ["numbers"] (spOver K) := by
  refine F.ok scOver (fun vs H Q E h => ?_) (fun cdv A outer s H vs Q E hr h => ?_)
  · obtain ⟨l, as, a, rfl, _⟩ := h
    rfl
  · obtain ⟨l, as, a, rfl, hS, t1, la, sa, q⟩ := h
    refine ⟨_, (pss_cons (ps_set (i := 1) scOver.nd rfl (Or.inr rfl) pe_int)
  (pss_cons (ps_for PassesOwn.never rfl (pi_tup (pv 0)) (pg_name (i := 2) scOver.nd rfl (Or.inl rfl))
    (pss_one (ps_set (i := 1) scOver.nd rfl (Or.inr rfl) (pe_callBfun cr_lcm (by rfl) hlcm (pa_cons (pv 1) (pa_cons (pe_ix ix_tup (pv 2) pe_int (fun _ _ => rfl)) pa_nil))))))
  (pss_one (ps_ret (pe_tup (pa_cons (pe_lc (own := [("top", 3), ("bottom", 4)]) (g := gTup K 2 (gCons (gName 3) (gCons (gName 4) gNil))) (tt := tYes) rfl scOver.nd (pi_seq (pv 0)) (blkOk_by (N := ["numbers", "below", "number", "top", "bottom"]) (sc := defScope sOver) (by decide +kernel)) (fun _ _ _ _ _ => pg_tup rfl (pgs_cons (pg_name (i := 3) scOver.nd rfl (Or.inl rfl)) (pgs_cons (pg_name (i := 4) scOver.nd rfl (Or.inl rfl)) pgs_nil))) (fun _ _ _ _ _ => pts_nil) (fun _ _ _ _ _ => (pe_op op_mulW (pv 3) (pe_op op_fdivW (pv 1) (pv 4))))) (pa_cons (pv 1) pa_nil))))))), ?_⟩
    have n1 := t1.lenQ
    refine ⟨_, rfl, l, rfl, ⟨_, hS⟩, for_tup (K := K) (a := l) (xs := as.map V.ref) (fun i σ H' => ∃ (b : Nat) (v : Option V), σ = [some (.ref l), some (.int (b : Int)), v, none, none] ∧ Same H H' ∧ 0 < b ∧ b ≤ (2 ^ 12) ^ i ∧ ∀ j, j < i → (cf a j).den ∣ b)
      ⟨1, none, rfl, Same.refl _, by decide, by decide, fun j hj => by omega⟩ (fun i σ H' _ ⟨_, _, _, ss, _⟩ => same_sqT ss hS) ?_ ?_⟩
    · rintro i x σ H' hi ⟨b, v, rfl, ss, b0, bi, dv⟩
      rw [List.getElem?_map] at hi
      cases hr0 : as[i]? with
      | none => rw [hr0] at hi; cases hi
      | some r =>
        rw [hr0] at hi
        cases hi
        obtain ⟨qq, hq1, hq2⟩ := t1.atQ hr0
        have hc := cf_get hq1
        have hi13 : i < 13 := by
          have := (List.getElem?_eq_some_iff.mp hr0).1
          omega
        have hb : b < 2 ^ 4000 := by
          have e : ((2 : Nat) ^ 12) ^ i = 2 ^ (12 * i) := (Nat.pow_mul _ _ _).symm
          rw [e] at bi
          exact Nat.lt_of_le_of_lt bi (Nat.pow_lt_pow_right (by decide) (by omega))
        have hd : qq.den ≤ 2 ^ 12 := by rw [← hc]; exact (sa i).2
        have hd0 := qq.den_pos
        refine ⟨_, rfl, _, rfl, r, _, _, .int (qq.den : Int), rfl, rfl, SqT.of (ss _ _ hq2), at_of (j := 1) rfl rfl, _, _, rfl, by rw [Int.natAbs_natCast]; exact hb, by rw [Int.natAbs_natCast]; exact Nat.lt_of_le_of_lt hd (Nat.pow_lt_pow_right (by decide) (by decide)), ?_⟩
        rw [Int.natAbs_natCast, Int.natAbs_natCast]
        refine ⟨b.lcm qq.den, _, rfl, ss, Nat.lcm_pos b0 hd0, ?_, fun j hj => ?_⟩
        · have le : b.lcm qq.den ≤ b * qq.den := Nat.le_of_dvd (Nat.mul_pos b0 hd0) (Nat.lcm_dvd_mul b qq.den)
          rw [Nat.pow_succ]
          exact Nat.le_trans le (Nat.mul_le_mul bi hd)
        · by_cases e : j = i
          · rw [e, hc]
            exact Nat.dvd_lcm_right _ _
          · exact Nat.dvd_trans (dv j (by omega)) (Nat.dvd_lcm_left _ _)
    · rintro σ H' ⟨b, v, rfl, ss, b0, bi, dv⟩
      rw [List.length_map, n1] at bi dv
      have b156 : b ≤ 2 ^ 156 := by
        have e : ((2 : Nat) ^ 12) ^ a.length = 2 ^ (12 * a.length) := (Nat.pow_mul _ _ _).symm
        rw [e] at bi
        exact Nat.le_trans bi (Nat.pow_le_pow_right (by decide) (by omega))
      have hS' := same_sqT ss hS
      have t1' := t1.same ss
      let g : Nat → Int := fun i => (cf a i).num * ((b : Int) / ((cf a i).den : Int))
      have hg : ∀ i, i < a.length → (g i).natAbs ≤ 2 ^ 169 := fun i hi => by
        show ((cf a i).num * ((b : Int) / ((cf a i).den : Int))).natAbs ≤ _
        rw [Int.natAbs_mul, show (2 : Nat) ^ 169 = 2 ^ 13 * 2 ^ 156 from by decide +kernel]
        refine Nat.mul_le_mul (sa i).1 (Nat.le_trans ?_ b156)
        rw [← Int.natCast_ediv, Int.natAbs_natCast]
        exact Nat.div_le_self _ _
      refine ⟨_, rfl, l, rfl, lc_seq (xs := as.map V.ref) (.inr hS') (fun D i H2 => Same H' H2 ∧ H2 D = some (.lst ((tabI i g).map V.int))) ?_ ?_ ?_ ?_⟩
      · intro D hD
        exact ⟨same_upd hD, upd_same⟩
      · intro D i H2 hD ⟨s2, _⟩
        exact ⟨same_sqL s2, same_sqT s2⟩
      · intro D i x H2 hD hi ⟨s2, eD⟩
        rw [List.getElem?_map] at hi
        cases hr0 : as[i]? with
        | none => rw [hr0] at hi; cases hi
        | some r =>
          rw [hr0] at hi
          cases hi
          obtain ⟨qq, hq1, hq2⟩ := t1'.atQ hr0
          have hc := cf_get hq1
          have hi13 := (List.getElem?_eq_some_iff.mp hr0).1
          have h1 : (qq.num).natAbs < 2 ^ 3900 := lt_4000 (by rw [← hc]; exact (sa i).1) (by decide)
          have h2 : ((b : Int) / (qq.den : Int)).natAbs < 2 ^ 3900 := by
            rw [← Int.natCast_ediv, Int.natAbs_natCast]
            exact lt_4000 (Nat.le_trans (Nat.div_le_self _ _) b156) (by decide)
          refine ⟨r, _, rfl, SqT.of (s2 _ _ hq2), rfl, _, _, rfl, _, _, rfl, rfl, rfl, ?_⟩
          refine ⟨_, rfl, _, rfl, _, rfl, _, _, rfl, rfl, ?_, _, _, rfl, rfl, big_mulW h1 h2, ?_⟩
          · have := qq.den_pos
            refine ⟨by omega, ?_⟩
            rw [Int.natAbs_natCast]
            have h3 : qq.den < 2 ^ 4000 := Nat.lt_of_le_of_lt (show qq.den ≤ 2 ^ 12 by rw [← hc]; exact (sa i).2) (Nat.pow_lt_pow_right (by decide) (by decide))
            exact Nat.lt_trans (log_4000 h3) (by decide)
          · refine ⟨_, eD, ?_, (fun b' o' e' => ?_), ?_⟩
            · rw [List.length_map, tabI_len, sizeLine_eq]
              omega
            · rw [upd_ne (ne_of_none e' hD)]
              exact s2 _ _ e'
            · rw [upd_same, tabI_snoc, List.map_append]
              show _ = some (HO.lst (_ ++ [V.int (g i)]))
              simp only [g, hc]
      · intro D H2 hD ⟨s2, eD⟩
        rw [List.length_map, n1] at eD
        refine ⟨_, rfl, (by show 2 ≤ sizeLine; decide), fun r nr => ?_⟩
        have s3 : Same H2 (upd H2 r (HO.tup [V.ref D, V.int (b : Int)])) := same_upd nr
        refine q r D _ b _ ((ss.trans s2).trans s3) upd_same (s3 _ _ eD) b0 b156 (tabI_len _ _) (fun i => ?_) (fun i => ?_)
        · rw [ci_tab]
          by_cases hi : i < a.length
          · rw [if_pos hi]
            exact over_one (dv i hi)
          · rw [if_neg hi, cf_ge (by omega), Rat.zero_mul]
            rfl
        · rw [ci_tab]
          by_cases hi : i < a.length
          · rw [if_pos hi]
            exact hg i hi
          · rw [if_neg hi]
            exact Nat.zero_le _
end

end Vf

set_option maxRecDepth 100000
set_option maxHeartbeats 8000000
namespace Vf
open PySem PySem.Spec PyProof.Rows L2
open LamX (ExtN Tabs TabS)
/-- a law's body, nothing leaves it, its own code object known -/
theorem fnG_of1 {P : Program} {w : World} {K : PySem.W.Frag} {mg : Str → Option Value} {base : Heap} {x qual : Str} {st : Stmt} {f : Addr} {fd : FuncData} {N ps : List Str} {k : Nat} {sp : Sp} (F : Fun K x qual st f fd) (S : FnScope N ps (defScope st))
    (ar : ∀ vs H Q E, sp vs H Q E → vs.length = ps.length)
    (body : ∀ (cdv : Value) (A : Around) (out : List Env) (s : Shared) (H : Hp) (vs : List V) (Q : VK) (E : XK), A.guards = some [] → Room k (A.deeper (envOfC qual (defScope st) s.heap.objs.size f cdv)) → fd.code = cdv → sp vs H Q E →
      ∃ t, PSs (cxOf CX0 P w K mg base N qual (defScope st) f cdv A out s H E).nox (defBody st) t ∧ t { nx := fun _ H' => Q .non H', rt := Q } (start N vs) H) : FnG P w K mg base CX0 (k + 1) f fd ps sp := by
  obtain ⟨oc, od, kV, doc, pm, an, cdv, ct, osl, e, lk, hcd⟩ := F.ex
  subst e
  refine ⟨ar, fun {A out s H args us vs Q E} hgu hr e0 hb r h => LamX.run_ofS lk hcd S hr e0 hb r (ar _ _ _ _ h) fun hr' => ?_⟩
  obtain ⟨t, z, q⟩ := body cdv A out s H vs Q E hgu hr' rfl h
  exact ⟨t, z.nox, q⟩
/-- the class of polynomials with its defs -/
structure PoM (P : Program) (w : World) (K : PySem.W.Frag) (mg : Str → Option Value) (base : Heap) (CP CR : Addr) where
  C : PoC K mg CP
  fI : Addr
  dI : FuncData
  mkI : Mk K CP fI
  bI : Binds K dI ["self", "numbers"] []
  okI : FnOk P w K mg base (L2.CX P w) 5 fI dI ["self", "numbers"] (spPolyI K CP CR)
  fE : Addr
  dE : FuncData
  aE : PySem.W.findIn K (.ref CP) "__eq__" = some (some (.ref fE))
  nE : PySem.W.isFn K (.ref fE) = true
  bE : Binds K dE ["self", "other"] []
  okE : FnOk P w K mg base CX0 1 fE dE ["self", "other"] (spPolyE K CP)
theorem rNe_no {x y : Str} {H : Hp} {B : Bool → Hp → Prop} (h : x = y) (g : B false H) : rNe (.str x) (.str y) H (fun v H' => ∃ k, v = V.bl k ∧ B k H') := by
  subst h
  exact ⟨rfl, false, by rw [decide_eq_true rfl]; rfl, g⟩
theorem rNe_int {x y : Int} {H : Hp} {B : Bool → Hp → Prop} (g : x = y → B false H) (h : x ≠ y → B true H) : rNe (.int x) (.int y) H (fun v H' => ∃ k, v = V.bl k ∧ B k H') := by
  by_cases e : x = y
  · exact ⟨rfl, false, by rw [decide_eq_true (by rw [e])]; rfl, g e⟩
  · exact ⟨rfl, true, by rw [decide_eq_false (fun z => e (V.int.inj z))]; rfl, h e⟩
theorem rNe_bl {x y : Bool} {H : Hp} {B : Bool → Hp → Prop} (e : x = y) (g : B false H) : rNe (.bl x) (.bl y) H (fun v H' => ∃ k, v = V.bl k ∧ B k H') := by
  subst e
  exact ⟨rfl, false, by rw [decide_eq_true rfl]; rfl, g⟩
theorem qual_eq {P : Program} {w : World} {K : PySem.W.Frag} {mg : Str → Option Value} {base : Heap} {N : List Str} {qual : Str} {sc : Scope} {f : Addr} {cd : Value} {A : Around} {o : List Env} {s : Shared} {H : Hp} {E : XK} {CT : CXT} : (cxOf CT P w K mg base N qual sc f cd A o s H E).nox.env.qual = qual ++ ".<locals>." := rfl
/-- the table of the law's own code objects -/
def Ts (Pt : Addr) : List (Addr × Str) := [(Pt, (Str.ofString "law" ++ Str.ofString ".<locals>.") ++ Str.ofString "<lambda>")]
theorem ts_mem (Pt : Addr) : (Pt, (Str.ofString "law" ++ Str.ofString ".<locals>.") ++ Str.ofString "<lambda>") ∈ Ts Pt := List.mem_singleton.mpr rfl
theorem ts_only (Pt : Addr) : ∀ p ∈ Ts Pt, p.1 = Pt → p.2 = (Str.ofString "law" ++ Str.ofString ".<locals>.") ++ Str.ofString "<lambda>" := fun p hp _ => by rw [List.mem_singleton.mp hp]
theorem seq_kp {K : PySem.W.Frag} {p a : Addr} {H H' : Hp} {xs : List V} (n : a ≠ p) (k : Kp p H H') : (SqL K H a xs → SqL K H' a xs) ∧ (SqT K H a xs → SqT K H' a xs) := by
  refine ⟨fun h => ?_, fun h => ?_⟩
  · rcases h with (h | ⟨o, h⟩) | h
    · exact Or.inl (Or.inl (k a _ n h))
    · exact Or.inl (Or.inr ⟨o, k a _ n h⟩)
    · exact Or.inr h
  · rcases h with (h | ⟨o, h⟩) | h
    · exact Or.inl (Or.inl (k a _ n h))
    · exact Or.inl (Or.inr ⟨o, k a _ n h⟩)
    · exact Or.inr h
/-- the law's promise -/
def spLaw (K : PySem.W.Frag) (Pt : Addr) : Sp := fun vs H Q _ => ∃ (a : Addr) (ns : List Int), vs = [.ref a] ∧ SqL K H a (ns.map V.int) ∧ ns.length ≤ 63 ∧ H Pt = some (.tbl #[]) ∧ ∀ H', Q (.bl true) H'
/-- a method of the class that raises nothing -/
structure Me (P : Program) (w : World) (K : PySem.W.Frag) (mg : Str → Option Value) (base : Heap) (CP : Addr) (x : Str) (k : Nat) (ps : List Str) (sp : Sp) where
  f : Addr
  fd : FuncData
  m : Meth K CP x f
  b : Binds K fd ps []
  ok : FnOk P w K mg base CX0 k f fd ps sp
/-- changes at lists and at the pen alone -/
theorem Pen.put {H H' : Hp} {p l b : Addr} {B : Int} (h : Pen H p l B) (k : ∀ c u, c ≠ b → H c = some u → H' c = some u) (h1 : b ≠ p) (h2 : b ≠ l) : Pen H' p l B := by
  obtain ⟨ns, a, d, c, f, ⟨g1, g2, g3⟩, hc⟩ := h
  exact ⟨ns, a, d, c, f, ⟨k _ _ h1.symm g1, k _ _ h2.symm g2, g3⟩, hc⟩
theorem Pen.lc {H : Hp} {p l : Addr} {B : Int} (h : Pen H p l B) : ∃ xs, H l = some (.lst xs) := by
  obtain ⟨ns, a, d, c, f, ⟨g1, g2, g3⟩, hc⟩ := h
  exact ⟨_, g2⟩
theorem Pen.ne_new {H : Hp} {p l b : Addr} {B : Int} (h : Pen H p l B) (n : H b = none) : b ≠ p ∧ b ≠ l := by
  obtain ⟨o, e⟩ := h.there
  obtain ⟨xs, e2⟩ := h.lc
  exact ⟨(ne_of_none e n).symm, (ne_of_none e2 n).symm⟩
theorem tabs_lst {T : List (Addr × Str)} {H H' : Hp} {b : Addr} {xs : List V} (hb : H b = some (.lst xs)) (k : ∀ c u, c ≠ b → H c = some u → H' c = some u) (t : Tabs T H) : Tabs T H' := fun y hy => by
  obtain ⟨ps, h1, h2, h3⟩ := t y hy
  refine ⟨ps, k _ _ (ne_of h1 hb (by intro z; cases z)) h1, h2, fun pos cv hc => ?_⟩
  obtain ⟨c', e1, e2⟩ := h3 pos cv hc
  exact ⟨c', e1, k _ _ (ne_of e2 hb (by intro z; unfold LamX.CodeO at z; cases z)) e2⟩
theorem upd_away {H : Hp} {b : Addr} {o : HO} : ∀ c u, c ≠ b → H c = some u → upd H b o c = some u := fun c u h e => by rw [upd_ne h]; exact e
theorem Tups.lst {H H' : Hp} {b : Addr} {xs : List V} (hb : H b = some (.lst xs)) (k : ∀ c u, c ≠ b → H c = some u → H' c = some u) {as : List Addr} {ps : List (Int × Int)} (h : Tups H as ps) : Tups H' as ps :=
  h.imp fun a p z => k _ _ (ne_of z hb (by intro z; cases z)) z
theorem Tups.kp {H H' : Hp} {p l : Addr} {B : Int} (hP : Pen H p l B) (k : Kp p H H') {as : List Addr} {ps : List (Int × Int)} (h : Tups H as ps) : Tups H' as ps := by
  obtain ⟨ns, a, d, c, f, ⟨g1, g2, g3⟩, hc⟩ := hP
  exact h.imp fun a p z => k _ _ (ne_of z g1 (by intro z; cases z)) z
theorem Tups.rep {H : Hp} {a : Addr} {p : Int × Int} (h : H a = some (.tup [.int p.1, .int p.2])) : ∀ n : Nat, Tups H (List.replicate n a) (List.replicate n p)
  | 0 => .nil
  | n + 1 => .cons h (Tups.rep h n)
theorem flat_rep (n : Nat) (a : Addr) : (List.replicate n [V.ref a]).flatten = (List.replicate n a).map V.ref := by
  rw [List.flatten_replicate_singleton, List.map_replicate]
theorem cut_to (xs : List V) (k : Nat) : cutV xs none (some (k : Int)) = xs.take k := by
  unfold cutV
  rw [HT.sIx_none, HT.sIx_nat, Nat.sub_zero, List.drop_zero]
  by_cases h : k ≤ xs.length
  · rw [Nat.min_eq_left h]
  · rw [Nat.min_eq_right (by omega), List.take_of_length_le (by omega), List.take_of_length_le (by omega)]
/-- what ratios have that are drawn -/
structure RatOk (p : Int × Int) : Prop where
  lw : Low p.1 p.2
  zt : S80 p.1
  zb : S80 p.2
theorem lowP_id {p : Int × Int} (h : RatOk p) : lowP p = p := low_id h.lw
theorem lowP_ids : ∀ {ps : List (Int × Int)}, (∀ p ∈ ps, RatOk p) → ps.map lowP = ps
  | [], _ => rfl
  | p :: ps, h => by
    rw [List.map_cons, lowP_id (h p (List.mem_cons_self ..)), lowP_ids fun x hx => h x (List.mem_cons_of_mem _ hx)]
theorem ratOk_big {p : Int × Int} (h : RatOk p) : p.2.natAbs < 2 ^ big := Nat.lt_trans h.zb (Nat.pow_lt_pow_right (by decide) (by decide))
theorem parts_pairD {p : Int × Int} (h : 0 < p.2) : partsD (pairD p) = some p := by
  obtain ⟨t, b⟩ := p
  show (if 0 < b then some (t, b) else none) = some (t, b)
  rw [if_pos h]
def pairL (p : Int × Int) : PyData := .list [.int p.1, .int p.2]
theorem parts_pairL {p : Int × Int} (h : 0 < p.2) : partsD (pairL p) = some p := by
  obtain ⟨t, b⟩ := p
  show (if 0 < b then some (t, b) else none) = some (t, b)
  rw [if_pos h]
theorem mapM_of {f : Int × Int → PyData} : ∀ {ps : List (Int × Int)}, (∀ p ∈ ps, partsD (f p) = some p) → (ps.map f).mapM partsD = some ps
  | [], _ => by rw [List.map_nil, List.mapM_nil]; rfl
  | p :: ps, h => by
    rw [List.map_cons, List.mapM_cons, h p (List.mem_cons_self ..), mapM_of fun x hx => h x (List.mem_cons_of_mem _ hx)]
    rfl
theorem mapM_snoc : ∀ {ds : List PyData} {ps : List (Int × Int)} {d : PyData} {p : Int × Int}, ds.mapM partsD = some ps → partsD d = some p → (ds ++ [d]).mapM partsD = some (ps ++ [p])
  | [], ps, d, p, h, e => by
    rw [List.mapM_nil] at h
    cases h
    rw [List.nil_append, List.mapM_cons, e, List.mapM_nil]
    rfl
  | d0 :: ds, ps, d, p, h, e => by
    rw [List.mapM_cons] at h
    cases e0 : partsD d0 with
    | none => rw [e0] at h; cases h
    | some p0 =>
      rw [e0] at h
      cases e1 : ds.mapM partsD with
      | none => rw [e1] at h; cases h
      | some ps1 =>
        rw [e1] at h
        cases h
        rw [List.cons_append, List.mapM_cons, e0, mapM_snoc e1 e]
        rfl
theorem mapM_odd {ds : List PyData} {d : PyData} (h : d ∈ ds) (e : partsD d = none) : ds.mapM partsD = none := by
  have z := mapM_all ds
  have a : (ds.map fun d => (partsD d).isSome).all id = false := by
    rw [List.all_eq_false]
    exact ⟨_, List.mem_map.mpr ⟨d, h, rfl⟩, by rw [e]; decide⟩
  rw [a] at z
  cases hm : ds.mapM partsD with
  | none => rfl
  | some ps => rw [hm] at z; cases z
theorem gd_pairD {p : Int × Int} (h : RatOk p) : Gd (pairD p) :=
  (gd_pair (Nat.lt_trans h.zt (Nat.pow_lt_pow_right (by decide) (by decide))) (Nat.lt_trans h.zb (Nat.pow_lt_pow_right (by decide) (by decide)))).2
theorem small_row {rs : List (Int × Int)} (hl : rs.length ≤ 100) (h : ∀ p ∈ rs, RatOk p) : small (.tuple (rs.map pairD)) :=
  (small_of_gd (by rw [List.length_map]; exact hl) fun d hd => by
    obtain ⟨p, hp, e⟩ := List.mem_map.mp hd
    rw [← e]
    exact gd_pairD (h p hp)).2
/-- ratios as they are passed -/
inductive Giv : List PyData → List (Int × Int) → Prop
  | nil : Giv [] []
  | cons {d : PyData} {p : Int × Int} {k : Int} {ds : List PyData} {ps : List (Int × Int)} : partsD d = some (p.1 * k, p.2 * k) → 0 < k → k ≤ 3 → Gd d → Giv ds ps → Giv (d :: ds) (p :: ps)
theorem Giv.len : ∀ {ds : List PyData} {ps : List (Int × Int)}, Giv ds ps → ds.length = ps.length
  | _, _, .nil => rfl
  | _, _, .cons _ _ _ _ t => congrArg (· + 1) t.len
theorem Giv.snoc : ∀ {ds : List PyData} {ps : List (Int × Int)} {d : PyData} {p : Int × Int} {k : Int}, Giv ds ps → partsD d = some (p.1 * k, p.2 * k) → 0 < k → k ≤ 3 → Gd d → Giv (ds ++ [d]) (ps ++ [p])
  | _, _, _, _, _, .nil, h1, h2, h3, h4 => .cons h1 h2 h3 h4 .nil
  | _, _, _, _, _, .cons g1 g2 g3 g4 t, h1, h2, h3, h4 => .cons g1 g2 g3 g4 (t.snoc h1 h2 h3 h4)
theorem Giv.row : ∀ {ds : List PyData} {ps : List (Int × Int)}, Giv ds ps → (∀ p ∈ ps, RatOk p) → ∃ qs, ds.mapM partsD = some qs ∧ qs.map lowP = ps ∧ ∀ q ∈ qs, q.2.natAbs < 2 ^ big
  | _, _, .nil, _ => ⟨[], by rw [List.mapM_nil]; rfl, rfl, fun q h => by cases h⟩
  | _, _, .cons (p := p) (k := k) h1 h2 h3 h4 t, h => by
    obtain ⟨qs, e1, e2, e3⟩ := t.row fun x hx => h x (List.mem_cons_of_mem _ hx)
    have ok := h p (List.mem_cons_self ..)
    refine ⟨(p.1 * k, p.2 * k) :: qs, ?_, ?_, ?_⟩
    · rw [List.mapM_cons, h1, e1]
      rfl
    · rw [List.map_cons, e2]
      congr 1
      exact low_back ok.lw h2
    · intro q hq
      rcases List.mem_cons.mp hq with z | z
      · rw [z]
        exact Nat.lt_trans (s80_k ok.zb h2 h3) (Nat.pow_lt_pow_right (by decide) (by decide))
      · exact e3 q z
theorem parts_plain {d : PyData} {p : Int × Int} (h : partsD d = some p) : d.plain = true ∧ d.depth ≤ 1 := by
  cases d with
  | int i => exact ⟨rfl, by simp [PyData.depth]⟩
  | list ds =>
    have z := (pair_pos (ds := ds) (t := p.1) (b := p.2) h).1
    rw [z]
    exact ⟨by simp [PyData.plain, PyData.plainAll], by simp [PyData.depth, PyData.depthAll]⟩
  | tuple ds =>
    have z := (pair_pos (ds := ds) (t := p.1) (b := p.2) h).1
    rw [z]
    exact ⟨by simp [PyData.plain, PyData.plainAll], by simp [PyData.depth, PyData.depthAll]⟩
  | _ => cases h
theorem Giv.plain : ∀ {ds : List PyData} {ps : List (Int × Int)}, Giv ds ps → PyData.plainAll ds = true ∧ PyData.depthAll ds ≤ 1
  | _, _, .nil => ⟨by simp only [PyData.plainAll], by simp only [PyData.depthAll]; omega⟩
  | _, _, .cons h1 _ _ _ t => by
    obtain ⟨a, b⟩ := parts_plain h1
    obtain ⟨c, d⟩ := t.plain
    simp only [PyData.plainAll, PyData.depthAll]
    exact ⟨by rw [a, c]; rfl, Nat.max_le.mpr ⟨b, d⟩⟩
theorem Giv.gd : ∀ {ds : List PyData} {ps : List (Int × Int)}, Giv ds ps → ∀ d ∈ ds, Gd d
  | _, _, .nil, d, h => by cases h
  | _, _, .cons _ _ _ h4 t, d, h => by
    rcases List.mem_cons.mp h with z | z
    · rw [z]; exact h4
    · exact t.gd d z
theorem eqv_nilL : ∀ ds : List PyData, PyData.eqv (.list ds) (.list []) = decide (ds = [])
  | [] => by simp [PyData.eqv, PyData.eqvAll]
  | d :: ds => by simp [PyData.eqv, PyData.eqvAll]
theorem Dts.setAt {K : PySem.W.Frag} {H : Hp} : ∀ {vs : List V} {ds : List PyData} (i : Nat) {v : V} {d : PyData}, Dts K H vs ds → Dt K H v d → Dts K H (vs.set i v) (ds.set i d)
  | _, _, _, _, _, .nil, _ => .nil
  | _, _, 0, _, _, .cons _ t, h => .cons h t
  | _, _, i + 1, _, _, .cons a t, h => .cons a (t.setAt i h)
/-- lists of two whole numbers each -/
inductive Lsts (H : Hp) : List Addr → List (Int × Int) → Prop
  | nil : Lsts H [] []
  | cons {a : Addr} {as : List Addr} {p : Int × Int} {ps : List (Int × Int)} : H a = some (.lst [.int p.1, .int p.2]) → Lsts H as ps → Lsts H (a :: as) (p :: ps)
theorem Lsts.len {H : Hp} : ∀ {as : List Addr} {ps : List (Int × Int)}, Lsts H as ps → as.length = ps.length
  | _, _, .nil => rfl
  | _, _, .cons _ t => congrArg (· + 1) t.len
theorem Lsts.imp {H H' : Hp} : ∀ {as : List Addr} {ps : List (Int × Int)}, (∀ a ∈ as, ∀ (p : Int × Int), H a = some (.lst [.int p.1, .int p.2]) → H' a = some (.lst [.int p.1, .int p.2])) → Lsts H as ps → Lsts H' as ps
  | _, _, _, .nil => .nil
  | _, _, e, .cons h t => .cons (e _ (List.mem_cons_self ..) _ h) (t.imp fun a ha => e a (List.mem_cons_of_mem _ ha))
theorem Lsts.snoc {H : Hp} : ∀ {as : List Addr} {ps : List (Int × Int)} {a : Addr} {p : Int × Int}, Lsts H as ps → H a = some (.lst [.int p.1, .int p.2]) → Lsts H (as ++ [a]) (ps ++ [p])
  | _, _, _, _, .nil, h => .cons h .nil
  | _, _, _, _, .cons h t, h2 => .cons h (t.snoc h2)
theorem Lsts.dts {K : PySem.W.Frag} {H : Hp} : ∀ {as : List Addr} {ps : List (Int × Int)}, Lsts H as ps → Dts K H (as.map V.ref) (ps.map pairL)
  | _, _, .nil => .nil
  | _, _, .cons h t => .cons (.lst (SqL.of h) (.cons (.int _) (.cons (.int _) .nil))) t.dts
theorem Lsts.mem {H : Hp} : ∀ {as : List Addr} {ps : List (Int × Int)}, Lsts H as ps → ∀ a ∈ as, ∃ x y : Int, H a = some (.lst [.int x, .int y])
  | _, _, .nil, a, h => by cases h
  | _, _, .cons h t, a, hm => by
    rcases List.mem_cons.mp hm with z | z
    · rw [z]; exact ⟨_, _, h⟩
    · exact t.mem a z

end Vf

set_option maxRecDepth 100000
set_option maxHeartbeats 8000000
namespace Vf
open PySem PySem.Spec PyProof.Rows L2
/-! ### Polys out of rows -/
def RW (H : Hp) (l : Addr) (ps : List (Int × Int)) : Prop := ∃ as, H l = some (.lst (as.map V.ref)) ∧ Tups H as ps
def PolyQ (K : PySem.W.Frag) (CP : Addr) (H : Hp) (a : Addr) (qs : List Rat) : Prop := PolyAt K CP H a (qs.map pq)
theorem PolyQ.same {K : PySem.W.Frag} {CP : Addr} {H H' : Hp} {a : Addr} {qs : List Rat} (h : PolyQ K CP H a qs) (s : Same H H') : PolyQ K CP H' a qs := PolyAt.same h s
/-- what Poly(row) comes to -/
theorem poly_row {K : PySem.W.Frag} {CP CR : Addr} {H : Hp} {l : Addr} {ps : List (Int × Int)} {qs : List Rat} {Qd : Addr → Hp → Prop} {E : XK} (h : RW H l ps) (hl : ps.length ≤ 1000) (hp : ∀ p ∈ ps, 0 < p.2 ∧ p.2.natAbs < 2 ^ big) (hq : ps.map lowP = qs.map pq)
    (k : ∀ (x : Addr) (H' : Hp), Same H H' → H x = none → PolyQ K CP H' x (stripQ qs) → Qd x H') :
    ∀ x dx, H x = none → H dx = none → dx ≠ x → spPolyI K CP CR (.ref x :: ([V.ref l] ++ [])) (upd (upd H dx (.own x)) x (.ins CP dx [])) (fun w H2 => w = .non ∧ Qd x H2) E := by
  obtain ⟨as, e, t⟩ := h
  have rd : rowD (.list (ps.map pairD)) = some ps := mapM_of fun p h => parts_pairD (hp p h).1
  refine poly_made (d := .list (ps.map pairD)) (.lst (SqL.of e) t.dts) (fun ds' h => ?_) (fun ps' h => ?_) (fun z => by rw [rd] at z; cases z)
  · cases h
    rw [List.length_map]
    exact hl
  rw [rd] at h
  cases h
  refine ⟨fun p h => (hp p h).2, fun x H' s nx made => k x H' s nx ?_⟩
  rw [hq, strip_map] at made
  exact made
theorem poly_rl {K : PySem.W.Frag} {CP CR : Addr} {H : Hp} {l : Addr} {qs : List Rat} {Qd : Addr → Hp → Prop} {E : XK} (h : RL H l qs) (hl : qs.length ≤ 1000) (hz : ∀ q ∈ qs, q.den < 2 ^ big)
    (k : ∀ (x : Addr) (H' : Hp), Same H H' → H x = none → PolyQ K CP H' x (stripQ qs) → Qd x H') :
    ∀ x dx, H x = none → H dx = none → dx ≠ x → spPolyI K CP CR (.ref x :: ([V.ref l] ++ [])) (upd (upd H dx (.own x)) x (.ins CP dx [])) (fun w H2 => w = .non ∧ Qd x H2) E := by
  refine poly_row (ps := qs.map pq) h (by rw [List.length_map]; exact hl) (fun p hp => ?_) ?_ k
  · obtain ⟨q, hq, rfl⟩ := List.mem_map.mp hp
    have := q.den_pos
    refine ⟨by show (0 : Int) < (q.den : Int); omega, ?_⟩
    show (q.den : Int).natAbs < _
    rw [Int.natAbs_natCast]
    exact hz q hq
  · rw [List.map_map]
    refine List.map_congr_left fun q _ => ?_
    exact low_id (pq_low q)
def pmQ (a b : List Rat) : List Rat := if a = [] ∨ b = [] then [] else tab (a.length + b.length - 1) (pc a b)
theorem pmQ_strip (a b : List Rat) : stripQ (pmQ a b) = stripQ (pmul a b) := by
  refine stripQ_ext fun i => ?_
  rw [cf_pmul]
  unfold pmQ
  split
  · rename_i h
    rw [cf_nil]
    symm
    unfold pc
    refine sm_zero fun j _ => ?_
    rcases h with h | h <;> rw [h, cf_nil]
    · exact Rat.zero_mul _
    · exact Rat.mul_zero _
  · rw [cf_tab]
    split
    · rfl
    · rw [pc_zero (by omega)]
def spProds (K : PySem.W.Frag) : Sp := fun vs H Q _ => ∃ (l1 l2 : Addr) (as bs : List Addr) (a b : List Rat), vs = [.ref l1, .ref l2] ∧ SqT K H l1 (as.map V.ref) ∧ Tups H as (a.map pq) ∧ SqT K H l2 (bs.map V.ref) ∧ Tups H bs (b.map pq) ∧ a.length ≤ 13 ∧ b.length ≤ 13 ∧ (∀ i, Sm (cf a i)) ∧ (∀ i, Sm (cf b i)) ∧
  ∀ (l : Addr) (ps : List (Int × Int)) (H' : Hp), Same H H' → RW H' l ps → ps.length ≤ 1000 → (∀ p ∈ ps, 0 < p.2 ∧ p.2.natAbs < 2 ^ big) → ps.map lowP = (pmQ a b).map pq → Q (.ref l) H'
section
variable {P : Program} {w : World} {K : PySem.W.Frag} {mg : Str → Option Value} {base : Heap} {CP CR CN : Addr}
abbrev sProds : Stmt := topS 28
theorem scProds : FnScope ["one", "other", "row", "bottom", "other_row", "other_bottom", "below", "top"] ["one", "other"] (defScope sProds) := ⟨rfl, rfl, rfl, by decide +kernel, rfl, by decide +kernel, by decide +kernel⟩
end

end Vf

set_option maxRecDepth 100000
set_option maxHeartbeats 8000000
namespace Vf
open PySem PySem.Spec PyProof.Rows L2
/-! ### drawn polynomials -/
def SmD (m : Int) (q : Rat) : Prop := (q.num.natAbs : Int) ≤ m * 99 ∧ q.den ≤ 99
theorem RL.kp {H H' : Hp} {p lc l : Addr} {B : Int} {qs : List Rat} (h : RL H l qs) (hP : Pen H p lc B) (k : Kp p H H') : RL H' l qs := by
  obtain ⟨as, e, t⟩ := h
  refine ⟨as, k _ _ ?_ e, t.kp hP k⟩
  obtain ⟨_, _, _, _, _, g1, _⟩ := hP
  exact ne_of e g1.1 (by intro z; cases z)
theorem RL.ne {H : Hp} {p lc l : Addr} {B : Int} {qs : List Rat} (h : RL H l qs) (hP : Pen H p lc B) : l ≠ p := by
  obtain ⟨as, e, t⟩ := h
  obtain ⟨_, _, _, _, _, g1, _⟩ := hP
  exact ne_of e g1.1 (by intro z; cases z)
theorem TR.kp {H H' : Hp} {p lc r : Addr} {B : Int} {q : Rat} (h : TR H r q) (hP : Pen H p lc B) (k : Kp p H H') : TR H' r q := by
  obtain ⟨_, _, _, _, _, g1, _⟩ := hP
  exact k _ _ (ne_of h g1.1 (by intro z; cases z)) h
theorem PolyQ.kp {K : PySem.W.Frag} {CP : Addr} {H H' : Hp} {a p l : Addr} {B : Int} {qs : List Rat} (h : PolyQ K CP H a qs) (hP : Pen H p l B) (k : Kp p H H') : PolyQ K CP H' a qs := PolyAt.kp h hP k
def spDrawn : Sp := fun vs H Q _ => ∃ (p lc : Addr) (B g m : Int), vs = [.ref p, .int g, .int m] ∧ Pen H p lc B ∧ B ≤ 1000000 ∧ 0 ≤ g ∧ g ≤ 12 ∧ 1 ≤ m ∧ m ≤ 5 ∧
  ∀ (l : Addr) (qs : List Rat) (H' : Hp), Pen H' p lc (B + 100) → Kp p H H' → RL H' l qs → qs.length ≤ 13 → stripQ qs = qs → (∀ i, SmD m (cf qs i)) → Q (.ref l) H'
def spMade (K : PySem.W.Frag) (CP : Addr) : Sp := fun vs H Q _ => ∃ (p lc l : Addr) (B : Int) (a : List Rat), vs = [.ref p, .ref l] ∧ Pen H p lc B ∧ B ≤ 1000000 ∧ RL H l a ∧ a.length ≤ 13 ∧ stripQ a = a ∧ (∀ i, RatOk (pq (cf a i))) ∧
  ∀ (x : Addr) (H' : Hp), Pen H' p lc (B + 100) → Kp p H H' → PolyQ K CP H' x a → Q (.ref x) H'
theorem sm_s80 {q : Rat} (h : Sm q) : RatOk (pq q) := by
  refine ⟨pq_low q, Nat.lt_of_le_of_lt h.1 (Nat.pow_lt_pow_right (by decide) (by decide)), ?_⟩
  show (q.den : Int).natAbs < 2 ^ 80
  rw [Int.natAbs_natCast]
  exact Nat.lt_of_le_of_lt h.2 (Nat.pow_lt_pow_right (by decide) (by decide))
theorem mem_cf {qs : List Rat} {q : Rat} (h : q ∈ qs) : ∃ i, q = cf qs i := by
  obtain ⟨i, hi, e⟩ := List.mem_iff_getElem.mp h
  exact ⟨i, by rw [cf_lt hi, e]⟩
theorem Dts.rep0 {K : PySem.W.Frag} {H : Hp} : ∀ n : Nat, Dts K H (List.replicate n (V.int 0)) (List.replicate n (PyData.int 0))
  | 0 => .nil
  | n + 1 => .cons (.int 0) (Dts.rep0 n)
theorem giv_rep0 {ds : List PyData} {ps : List (Int × Int)} (h : Giv ds ps) : ∀ n : Nat, Giv (ds ++ List.replicate n (PyData.int 0)) (ps ++ List.replicate n (0, 1))
  | 0 => by rw [List.replicate_zero, List.replicate_zero, List.append_nil, List.append_nil]; exact h
  | n + 1 => by
    rw [List.replicate_succ', List.replicate_succ', ← List.append_assoc, ← List.append_assoc]
    exact (giv_rep0 h n).snoc (k := 1) (p := (0, 1)) rfl (by decide) (by decide) (gd_int (by show (0 : Int).natAbs < _; exact Nat.pow_pos (by decide)))
section
variable {P : Program} {w : World} {K : PySem.W.Frag} {mg : Str → Option Value} {base : Heap} {CP CR CN : Addr}
abbrev sMade : Stmt := topS 47
theorem scMade : FnScope ["_law_pen_here", "_law_one", "_law_numbers", "_law_number"] ["_law_pen_here", "_law_one"] (defScope sMade) := ⟨rfl, rfl, rfl, by decide +kernel, rfl, by decide +kernel, by decide +kernel⟩
theorem ok_made {f : Addr} {fd : FuncData} (F : Fun K "_law_made_poly" "_law_made_poly" sMade f fd) (T : Bk mg) (PM : PoM P w K mg base CP CR) (Gd_ : Df P w K mg base "_law_draw" 1 ["_law_pen_here", "_law_many"] spDraw) (Gp : Df P w K mg base "_law_pick" 2 ["_law_pen_here", "_law_some"] spPick) (Gs : Df P w K mg base "_law_passed" 3 ["_law_pen_here", "_law_ratio"] (spPassed K)) : FnOk P w K mg base CX0 7 f fd ["_law_pen_here", "_law_one"] (spMade K CP) := by
  refine F.ok scMade (fun vs H Q E h => ?_) (fun cdv A outer s H vs Q E hr h => ?_)
  · obtain ⟨p, lc, l, B, a, rfl, _⟩ := h
    rfl
  · obtain ⟨p, lc, l, B, a, rfl, hP, hB, ⟨as, el, ta⟩, la, st, sa, q⟩ := h
    refine ⟨_, (pss_cons (ps_set (i := 2) scMade.nd rfl (Or.inl rfl) (pe_op op_cat (pe_lc (own := [("_law_number", 3)]) (g := gName 3) (tt := tYes) rfl scMade.nd (pi_seq (pv 1)) (blkOk_by (N := ["_law_pen_here", "_law_one", "_law_numbers", "_law_number"]) (sc := defScope sMade) (by decide +kernel)) (fun _ _ _ _ _ => pg_name (i := 3) scMade.nd rfl (Or.inl rfl)) (fun _ _ _ _ _ => pts_nil) (fun _ _ _ _ _ => (pe_call Gs.ok (hr.mono (by decide)) rfl Gs.m Gs.kp Gs.b .nil pass0 (pa_cons (pv 0) (pa_cons (pv 3) pa_nil))))) (pe_op op_rep (pe_lst (pa_cons pe_int pa_nil)) (pe_call Gd_.ok (hr.mono (by decide)) rfl Gd_.m Gd_.kp Gd_.b .nil pass0 (pa_cons (pv 0) (pa_cons pe_int pa_nil))))))
  (pss_one (ps_ret (pe_make PM.mkI PM.okI (hr.mono (by decide)) rfl PM.C.m PM.bI .nil passL (pa_cons (pe_call Gp.ok (hr.mono (by decide)) rfl Gp.m Gp.kp Gp.b .nil pass0 (pa_cons (pv 0) (pa_cons (pe_lst (pa_cons (pe_callTy call_tuple_of (by rfl) T.tuple (by decide +kernel) (pa_cons (pv 2) pa_nil)) (pa_cons (pv 2) pa_nil))) pa_nil))) pa_nil))))), ?_⟩
    have lp : l ≠ p := RL.ne ⟨as, el, ta⟩ hP
    have leq := ta.lenQ
    refine ⟨_, rfl, l, rfl, lc_seq (xs := as.map V.ref) (.inl (SqL.of el)) (fun D k H' => Kp p H H' ∧ Pen H' p lc (B + 3 * k) ∧ ∃ vs ds, H' D = some (.lst vs) ∧ Dts K (fz D p H') vs ds ∧ Giv ds ((a.map pq).take k)) ?_ ?_ ?_ ?_⟩
    · intro D hD
      exact ⟨Kp.of (same_upd hD), (hP.same (same_upd hD)).more (by omega), [], [], upd_same, .nil, .nil⟩
    · intro D k H' hD ⟨kk, _⟩
      exact seq_kp lp kk
    · intro D k x H' hD hk ⟨kk, hP', vs, ds, eD, dts, giv⟩
      obtain ⟨d1, d2⟩ := hP.ne_new hD
      rw [List.getElem?_map] at hk
      cases hr0 : as[k]? with
      | none => rw [hr0] at hk; cases hk
      | some r =>
        rw [hr0] at hk
        cases hk
        obtain ⟨qq, hq, er⟩ := ta.atQ hr0
        have rp : r ≠ p := by
          obtain ⟨_, _, _, _, _, g1, _⟩ := hP
          exact ne_of er g1.1 (by intro z; cases z)
        have okq : RatOk (pq qq) := by have := sa k; rw [cf_get hq] at this; exact this
        have hk13 : k < 13 := by
          have := (List.getElem?_eq_some_iff.mp hr0).1
          omega
        refine ⟨rfl, ?_⟩
        refine ⟨_, rfl, _, rfl, p, lc, r, _, (pq qq).1, (pq qq).2, rfl, hP', by omega, kk _ _ rp er, okq.lw.pos, okq.zt, okq.zb, fun v d kz H2 hP2 kp' hd pa k0 k3 gd => ?_⟩
        have eD' := kp' _ _ d1 eD
        have hDl : vs.length < sizeLine := by
          have := dts.len
          have := giv.len
          rw [List.length_take] at this
          rw [sizeLine_eq]
          omega
        have hp := hP'.there.choose_spec
        refine ⟨_, eD', hDl, ?_, (hP2.put upd_away d1 d2).more (by omega), vs ++ [v], ds ++ [d], upd_same, ?_, ?_⟩
        · exact fun b o nb eb => by
            rw [upd_ne (ne_of_none eb hD)]
            exact kp' b o nb (kk b o nb eb)
        · have up : Same (fz D p H2) (fz D p (upd H2 D (.lst (vs ++ [v])))) := fz_mono fun b o h1 h2 e => by rw [upd_ne h1]; exact e
          exact (dts.mono ((fz_mono fun b o h1 h2 e => kp' b o h2 e).trans up)).app (.cons (hd.mono ((nw_fz eD hp).trans up)) .nil)
        · have z := giv.snoc (p := pq qq) pa k0 k3 gd
          have e : (a.map pq).take (k + 1) = (a.map pq).take k ++ [pq qq] := by rw [List.take_succ, List.getElem?_map, hq]; rfl
          rw [e]
          exact z
    · intro lg H11 nlg ⟨k11, hP11, vs, ds, elg, dts, giv⟩
      obtain ⟨lgp, lgc⟩ := hP.ne_new nlg
      have etk : (a.map pq).take (as.map V.ref).length = a.map pq := by rw [List.length_map, leq]; exact List.take_of_length_le (by rw [List.length_map]; exact Nat.le_refl _)
      rw [etk] at giv
      have hP11 := hP11.more (show _ ≤ B + 60 by rw [List.length_map]; omega)
      have lenv : vs.length ≤ 13 := by
        have h1 := dts.len
        have h2 := giv.len
        rw [List.length_map] at h2
        omega
      refine ⟨(by show 1 ≤ sizeLine; decide), fun l1 nl1 => ?_⟩
      have el1 : upd H11 l1 (HO.lst [V.int 0]) l1 = some (HO.lst [V.int 0]) := upd_same
      have s12 : Same H11 (upd H11 l1 (HO.lst [V.int 0])) := same_upd nl1
      have l1p := (hP11.ne_new nl1).1
      generalize upd H11 l1 (HO.lst [V.int 0]) = H12 at el1 s12 ⊢
      have hP12 := hP11.same s12
      refine ⟨_, rfl, p, lc, _, 2, rfl, hP12, by omega, by decide, by decide, fun m H13 m0 m1 hP13 k13 => ?_⟩
      refine ⟨l1, m, _, rfl, rfl, k13 _ _ l1p el1, by omega, by omega, (by rw [sizeLine_eq]; show 1 * m.toNat ≤ _; omega), fun l2 nl2 => ?_⟩
      have el2 : upd H13 l2 (HO.lst (List.replicate m.toNat [V.int 0]).flatten) l2 = some (HO.lst (List.replicate m.toNat (V.int 0))) := by rw [upd_same, List.flatten_replicate_singleton]
      have s14 : Same H13 (upd H13 l2 (HO.lst (List.replicate m.toNat [V.int 0]).flatten)) := same_upd nl2
      generalize upd H13 l2 (HO.lst (List.replicate m.toNat [V.int 0]).flatten) = H14 at el2 s14 ⊢
      have elg14 := s14 _ _ (k13 _ _ lgp (s12 _ _ elg))
      refine ⟨lg, l2, _, _, rfl, rfl, elg14, el2, (by rw [List.length_replicate, sizeLine_eq]; omega), fun nb nnb => ?_⟩
      have enb : upd H14 nb (HO.lst (vs ++ List.replicate m.toNat (V.int 0))) nb = some (HO.lst (vs ++ List.replicate m.toNat (V.int 0))) := upd_same
      have s15 : Same H14 (upd H14 nb (HO.lst (vs ++ List.replicate m.toNat (V.int 0)))) := same_upd nnb
      have hP14 := hP13.same s14
      have nbp := (hP14.ne_new nnb).1
      generalize upd H14 nb (HO.lst (vs ++ List.replicate m.toNat (V.int 0))) = H15 at enb s15 ⊢
      have hP15 := hP14.same s15
      refine ⟨_, rfl, _, rfl, nb, _, rfl, .inl ⟨SqL.of enb, fun tg ntg => ?_⟩⟩
      have etg : upd H15 tg (HO.tup (vs ++ List.replicate m.toNat (V.int 0))) tg = some (HO.tup (vs ++ List.replicate m.toNat (V.int 0))) := upd_same
      have s16 : Same H15 (upd H15 tg (HO.tup (vs ++ List.replicate m.toNat (V.int 0)))) := same_upd ntg
      have tgp := (hP15.ne_new ntg).1
      generalize upd H15 tg (HO.tup (vs ++ List.replicate m.toNat (V.int 0))) = H16 at etg s16 ⊢
      have hP16 := hP15.same s16
      refine ⟨_, rfl, (by show 2 ≤ sizeLine; decide), fun l4 nl4 => ?_⟩
      have el4 : upd H16 l4 (HO.lst [V.ref tg, V.ref nb]) l4 = some (HO.lst [V.ref tg, V.ref nb]) := upd_same
      have s17 : Same H16 (upd H16 l4 (HO.lst [V.ref tg, V.ref nb])) := same_upd nl4
      have l4p := (hP16.ne_new nl4).1
      generalize upd H16 l4 (HO.lst [V.ref tg, V.ref nb]) = H17 at el4 s17 ⊢
      have hP17 := hP16.same s17
      refine ⟨p, lc, l4, _, _, rfl, hP17, by omega, el4, l4p, (by show 0 < 2; decide), (by show 2 < 1000000; decide), fun x H18 hx hP18 k18 => ?_⟩
      have k1118 : Kp p H11 H18 := ((Kp.of s12).trans k13).trans ((Kp.of (s14.trans (s15.trans (s16.trans s17)))).trans k18)
      have dts18 : Dts K H18 (vs ++ List.replicate m.toNat (V.int 0)) (ds ++ List.replicate m.toNat (PyData.int 0)) := (dts.mono ((fz_mono fun b o _ h e => k1118 b o h e).trans fz_sub)).app (Dts.rep0 _)
      have giv2 := giv_rep0 giv m.toNat
      have ok2 : ∀ y ∈ a.map pq ++ List.replicate m.toNat (0, 1), RatOk y := fun y hy => by
        rcases List.mem_append.mp hy with h | h
        · obtain ⟨q0, hq0, rfl⟩ := List.mem_map.mp h
          obtain ⟨i, rfl⟩ := mem_cf hq0
          exact sa i
        · rw [List.eq_of_mem_replicate h]
          exact sm_s80 sm_zero'
      obtain ⟨dg, hdg, sdg⟩ : ∃ dg, Dt K H18 x dg ∧ seqD dg = some (ds ++ List.replicate m.toNat (PyData.int 0)) := by
        simp only [List.mem_cons, List.not_mem_nil, or_false] at hx
        rcases hx with h | h
        · rw [h]
          exact ⟨.tuple _, .tup (SqT.of (k18 _ _ tgp (s17 _ _ etg))) dts18, rfl⟩
        · rw [h]
          exact ⟨.list _, .lst (SqL.of (k18 _ _ nbp (s17 _ _ (s16 _ _ enb)))) dts18, rfl⟩
      obtain ⟨qs, hqs, eqs, bqs⟩ := giv2.row ok2
      have rdg : rowD dg = some qs := by rw [rowD_seq sdg]; exact hqs
      refine poly_made hdg (fun ds' h => ?_) (fun ps' h => ?_) (fun z => by rw [rdg] at z; cases z)
      · rw [sdg] at h
        cases h
        have := dts18.len
        rw [List.length_append, List.length_replicate] at this
        omega
      rw [rdg] at h
      cases h
      refine ⟨bqs, fun md H19 s19 nmd made => q md H19 ((hP18.more (by omega)).same s19) (k11.trans (k1118.trans (Kp.of s19))) ?_⟩
      have e : a.map pq ++ List.replicate m.toNat (0, 1) = (a ++ List.replicate m.toNat 0).map pq := by
        rw [List.map_append, List.map_replicate]
        rfl
      have e2 : stripQ (a ++ List.replicate m.toNat 0) = a := by
        rw [← st]
        refine (stripQ_ext fun i => ?_).trans (by rw [st])
        rw [st, cf_app]
        split
        · rfl
        · rw [cf_rep0, cf_ge (by omega)]
      rw [eqs, e, strip_map, e2] at made
      exact made
end

end Vf

set_option maxRecDepth 100000
set_option maxHeartbeats 8000000
namespace Vf
open PySem PySem.Spec PyProof.Rows L2
/-! ### the nearest whole number -/
def spNear (K : PySem.W.Frag) (CN : Addr) (g : Int → Int → Int) : Sp := fun vs H Q E => ∃ (v : V) (d : PyData), vs = [v] ∧ Dt K H v d ∧
  (∀ t b, partsD d = some (t, b) → Sz t ∧ Sz b ∧ ∀ H', Same H H' → Q (.int (g t b)) H') ∧ (partsD d = none → RaisesN CN H (.str "ratio") v E)
def gNear (t b : Int) : Int := (2 * t + b).fdiv (2 * b)
theorem cdivW {x b : Int} (h : b ≠ 0) (hb : b.natAbs < 2 ^ 400) : CDivZ x b := ⟨h, by
  have := Nat.log2_lt (n := b.natAbs) (k := 400) (by omega)
  have := this.mpr hb
  omega⟩
/-- a suite that is never come to -/
theorem pss_no {X : Cx} {body : List Stmt} : PSs X body (fun _ _ _ => False) := ⟨fun _ _ _ _ _ _ h => h.elim⟩
section
variable {P : Program} {w : World} {K : PySem.W.Frag} {mg : Str → Option Value} {base : Heap} {CN : Addr}
abbrev sNear : Stmt := topS 18
theorem scNear : FnScope ["value", "top", "bottom"] ["value"] (defScope sNear) := ⟨rfl, rfl, rfl, by decide +kernel, rfl, by decide +kernel, by decide +kernel⟩
theorem ok_near {f : Addr} {fd : FuncData} (F : Fun K "nearest_whole" "nearest_whole" sNear f fd) (Gp : Dx P w K mg base "parts_of" 3 ["value", "what"] (spParts K CN)) : FnOk P w K mg base (L2.CX P w) 5 f fd ["value"] (spNear K CN gNear) := by
  refine F.okX scNear (fun vs H Q E h => ?_) (fun cdv A outer s H vs Q E hr h => ?_)
  · obtain ⟨v, d, rfl, _⟩ := h
    rfl
  · obtain ⟨v, d, rfl, hd, q, r⟩ := h
    refine ⟨_, (pss_cons (ps_asg (pe_call Gp.ok (hr.mono (by decide)) rfl Gp.m Gp.kp Gp.b .nil (E := E) (passes_call (takes_of rfl rfl rfl rfl) (fun _ _ _ _ h => h)) (pa_cons (pv 0) (pa_cons pe_str pa_nil))) (pg_tup (by rfl) (pgs_cons (pg_name (i := 1) scNear.nd rfl (Or.inl rfl)) (pgs_cons (pg_name (i := 2) scNear.nd rfl (Or.inl rfl)) pgs_nil))))
      (pss_one (ps_ret (pe_op op_fdivZ (pe_op op_add (pe_op op_mulW pe_int (pv 1)) (pv 2)) (pe_op op_mulW pe_int (pv 2)))))), ?_⟩
    refine ⟨_, rfl, v, .str "ratio", d, rfl, hd, fun t b hp p H1 s1 e1 => ?_, r⟩
    obtain ⟨ht, hb, q⟩ := q t b hp
    have b0 := parts_pos hp
    have s2 : Sz 2 := by unfold Sz; decide +kernel
    refine ⟨p, _, rfl, SqT.of e1, rfl, _, _, rfl, _, _, rfl, rfl, ?_⟩
    refine ⟨_, rfl, _, _, rfl, rfl, sz_mulW s2 ht, _, rfl, _, _, rfl, rfl, _, rfl, _, _, rfl, rfl, sz_mulW s2 hb, _, _, rfl, rfl, cdivW (by omega) (wide_lt s2 hb), ?_⟩
    exact q _ s1
end
/-! ### polynomials on grids -/
theorem sqL_kp {K : PySem.W.Frag} {H H' : Hp} {a p l : Addr} {B : Int} {xs : List V} (hP : Pen H p l B) (k : Kp p H H') (h : SqL K H a xs) : SqL K H' a xs := by
  obtain ⟨_, _, _, _, _, g1, _⟩ := hP
  rcases h with (h | ⟨o, h⟩) | h
  · exact .inl (.inl (k a _ (ne_of h g1.1 (by intro z; cases z)) h))
  · exact .inl (.inr ⟨o, k a _ (ne_of h g1.1 (by intro z; cases z)) h⟩)
  · exact .inr h
theorem sqT_kp {K : PySem.W.Frag} {H H' : Hp} {a p l : Addr} {B : Int} {xs : List V} (hP : Pen H p l B) (k : Kp p H H') (h : SqT K H a xs) : SqT K H' a xs := by
  obtain ⟨_, _, _, _, _, g1, _⟩ := hP
  rcases h with (h | ⟨o, h⟩) | h
  · exact .inl (.inl (k a _ (ne_of h g1.1 (by intro z; cases z)) h))
  · exact .inl (.inr ⟨o, k a _ (ne_of h g1.1 (by intro z; cases z)) h⟩)
  · exact .inr h
theorem sqB_kp {q : Bool} {K : PySem.W.Frag} {H H' : Hp} {a p l : Addr} {B : Int} {xs : List V} (hP : Pen H p l B) (k : Kp p H H') (h : SqB q K H a xs) : SqB q K H' a xs := by
  cases q
  · exact sqT_kp hP k h
  · exact sqL_kp hP k h
/-- a passed ratio stays where the pen alone changes -/
theorem dt_kp {K : PySem.W.Frag} {H H' : Hp} {p l : Addr} {B : Int} {v : V} {d : PyData} {x : Int × Int} (hP : Pen H p l B) (k : Kp p H H') (h : Dt K H v d) (e : partsD d = some x) : Dt K H' v d := by
  have two : ∀ {vs : List V} {ds : List PyData}, pair? ds = some x → Dts K H vs ds → Dts K H' vs ds := fun {vs ds} e h => by
    obtain ⟨rfl, _⟩ := pair_pos e
    obtain ⟨a, b, rfl, ha, hb⟩ := dts2 h
    cases ha
    cases hb
    exact .cons (.int _) (.cons (.int _) .nil)
  cases h with
  | int i => exact .int i
  | lst h1 h2 => exact .lst (sqL_kp hP k h1) (two e h2)
  | tup h1 h2 => exact .tup (sqT_kp hP k h1) (two e h2)
  | _ => cases e
/-- a passed ratio is this number -/
structure Rt (d : PyData) (q : Rat) : Prop where
  e : ∃ t b : Int, partsD d = some (t, b) ∧ q * (b : Rat) = (t : Rat) ∧ Sz t ∧ Sz b
theorem Rt.low {d : PyData} {q : Rat} {t b : Int} (h : Rt d q) (e : partsD d = some (t, b)) : low t b = pq q ∧ q * (b : Rat) = (t : Rat) ∧ Sz t ∧ Sz b ∧ 0 < b := by
  obtain ⟨t', b', e', h1, h2, h3⟩ := h.e
  rw [e] at e'
  cases e'
  have hb := parts_pos e
  exact ⟨low_mul (by omega) h1, h1, h2, h3, hb⟩
/-- a row of passed ratios above 0, one to five of them -/
structure StO (K : PySem.W.Frag) (H : Hp) (v : V) (qs : List Rat) : Prop where
  e : ∃ (a : Addr) (p : Bool) (xs : List V) (ds : List PyData), v = .ref a ∧ SqB p K H a xs ∧ Dts K H xs ds ∧ xs.length = qs.length ∧ ∀ i d, ds[i]? = some d → Rt d (cf qs i)
  n1 : 1 ≤ qs.length
  n5 : qs.length ≤ 5
  ps : ∀ i, i < qs.length → 0 < cf qs i
theorem dts_kp {K : PySem.W.Frag} {H H' : Hp} {p l : Addr} {B : Int} (hP : Pen H p l B) (k : Kp p H H') : ∀ {vs : List V} {ds : List PyData}, Dts K H vs ds → (∀ d ∈ ds, (partsD d).isSome = true) → Dts K H' vs ds
  | _, _, .nil, _ => .nil
  | _, _, .cons h t, e => by
    obtain ⟨x, hx⟩ := Option.isSome_iff_exists.mp (e _ (List.mem_cons_self ..))
    exact .cons (dt_kp hP k h hx) (dts_kp hP k t fun d hd => e d (List.mem_cons_of_mem _ hd))
theorem StO.same {K : PySem.W.Frag} {H H' : Hp} {v : V} {qs : List Rat} (h : StO K H v qs) (s : Same H H') : StO K H' v qs := by
  obtain ⟨⟨a, p, xs, ds, h1, h2, h3, h4, h5⟩, n1, n5, ps⟩ := h
  exact ⟨⟨a, p, xs, ds, h1, h2.same s, Dts.mono s h3, h4, h5⟩, n1, n5, ps⟩
theorem StO.kp {K : PySem.W.Frag} {H H' : Hp} {v : V} {qs : List Rat} {p l : Addr} {B : Int} (h : StO K H v qs) (hP : Pen H p l B) (k : Kp p H H') : StO K H' v qs := by
  obtain ⟨⟨a, q, xs, ds, h1, h2, h3, h4, h5⟩, n1, n5, ps⟩ := h
  refine ⟨⟨a, q, xs, ds, h1, sqB_kp hP k h2, dts_kp hP k h3 fun d hd => ?_, h4, h5⟩, n1, n5, ps⟩
  obtain ⟨i, hi, e⟩ := List.mem_iff_getElem.mp hd
  obtain ⟨t, b, e2, _⟩ := (h5 i d (by rw [List.getElem?_eq_getElem hi, e])).e
  rw [e2]
  rfl
theorem rt_pos {d : PyData} {q : Rat} {t b : Int} (h : Rt d q) (e : partsD d = some (t, b)) (hq : 0 < q) : 0 < t := by
  obtain ⟨_, h1, _, _, hb⟩ := h.low e
  have hb' : (0 : Rat) < (b : Rat) := by exact_mod_cast hb
  have := Rat.mul_pos hq hb'
  rw [h1] at this
  exact_mod_cast this
def spNeed (K : PySem.W.Frag) : Sp := fun vs H Q _ => ∃ (v : V) (qs : List Rat), vs = [v] ∧ StO K H v qs ∧ ∀ H', Same H H' → Q .non H'
theorem sz_01 : Sz 0 ∧ Sz 1 := ⟨by show (0 : Nat) < 2 ^ 200; decide +kernel, by show (1 : Nat) < 2 ^ 200; decide +kernel⟩
section
variable {P : Program} {w : World} {K : PySem.W.Frag} {mg : Str → Option Value} {base : Heap} {CP CR CN : Addr}
abbrev sNeed : Stmt := topS 32
theorem scNeed : FnScope ["steps", "step"] ["steps"] (defScope sNeed) := ⟨rfl, rfl, rfl, by decide +kernel, rfl, by decide +kernel, by decide +kernel⟩
theorem mapM_isSome : ∀ {ds : List PyData}, (∀ d ∈ ds, (partsD d).isSome = true) → (ds.mapM partsD).isSome = true
  | [], _ => by rw [List.mapM_nil]; rfl
  | d :: ds, h => by
    obtain ⟨x, hx⟩ := Option.isSome_iff_exists.mp (h d (List.mem_cons_self ..))
    obtain ⟨y, hy⟩ := Option.isSome_iff_exists.mp (mapM_isSome fun e he => h e (List.mem_cons_of_mem d he))
    rw [List.mapM_cons, hx, hy]
    rfl
theorem ok_need {f : Addr} {fd : FuncData} {tk : Tok} (F : Fun K "need_steps" "need_steps" sNeed f fd) (T : Bk mg) (hall : mg "all" = none) (m_MOST_STEPS : mg "MOST_STEPS" = some (.int 5 tk)) (G_is_ratio_row : Df P w K mg base "is_ratio_row" 3 ["value"] (spIsRow K)) (G_lower : Dx P w K mg base "lower" 4 ["one", "other"] (spTwo K CN okLower)) :
    FnOk P w K mg base CX0 6 f fd ["steps"] (spNeed K) := by
  refine F.ok scNeed (fun vs H Q E h => ?_) (fun cdv A outer s H vs Q E hr h => ?_)
  · obtain ⟨v, qs, rfl, _⟩ := h
    rfl
  · obtain ⟨v, qs, rfl, h, q⟩ := h
    refine ⟨_, (pss_one (ps_if (PW.pt (pw_or (pt_not (pt_val (pe_call G_is_ratio_row.ok (hr.mono (by decide)) rfl G_is_ratio_row.m G_is_ratio_row.kp G_is_ratio_row.b .nil pass0 (pa_cons (pv 0) pa_nil)))) (pw_or (pt_not (pt_chain op_le op_le pe_int (pe_callB call_len_seq (by rfl) T.len (by decide +kernel) (pa_cons (pv 0) pa_nil)) (pe_glob (v := V.int 5) rfl m_MOST_STEPS ⟨_, rfl⟩))) (pw_or1 (pt_not (pt_val (pe_callB (cr_all rfl) (by rfl) hall (by decide +kernel) (pa_cons (pe_lc (own := [("step", 1)]) (g := (gName 1)) (tt := tYes) rfl scNeed.nd (pi_seq (pv 0)) (blkOk_by (N := ["steps", "step"]) (sc := defScope sNeed) (by decide +kernel)) (fun _ _ _ _ _ => pg_name (i := 1) scNeed.nd rfl (Or.inl rfl)) (fun _ _ _ _ _ => pts_nil) (fun _ _ _ _ _ => (pe_call G_lower.ok (hr.mono (by decide)) rfl G_lower.m G_lower.kp G_lower.b .nil passL (pa_cons pe_int (pa_cons (pv 1) pa_nil))))) pa_nil))))))))
    pss_no
    pss_nil)), ?_⟩
    obtain ⟨⟨a, p, xs, ds, rfl, hS, hD, hl, hR⟩, n1, n5, ps⟩ := h
    have dl := hD.len
    have some_ : ∀ d ∈ ds, (partsD d).isSome = true := fun d hd => by
      obtain ⟨i, hi, e⟩ := List.mem_iff_getElem.mp hd
      obtain ⟨t, b, e2, _⟩ := (hR i d (by rw [List.getElem?_eq_getElem hi, e])).e
      rw [e2]
      rfl
    obtain ⟨dd, hdd, sdd⟩ : ∃ dd, Dt K H (.ref a) dd ∧ seqD dd = some ds := by
      cases p
      · exact ⟨_, .tup hS hD, rfl⟩
      · exact ⟨_, .lst hS hD, rfl⟩
    refine ⟨_, rfl, _, dd, rfl, hdd, fun ds' h => ?_, fun H1 s1 => ?_⟩
    · rw [sdd] at h
      cases h
      omega
    rw [rowD_seq sdd, mapM_isSome some_]
    refine ⟨true, rfl, ?_⟩
    refine iteF ?_
    have hS1 := hS.same s1
    refine ⟨_, rfl, a, xs, rfl, sqB_to hS1, _, _, rfl, rfl, _, rfl, ?_⟩
    rw [decide_eq_true (show (1 : Int) ≤ ((xs.length : Nat) : Int) by omega)]
    refine iteT ?_
    refine ⟨_, _, rfl, rfl, _, rfl, ?_⟩
    rw [decide_eq_true (show ((xs.length : Nat) : Int) ≤ 5 by omega)]
    refine iteF ?_
    refine ⟨_, rfl, a, rfl, lc_seq (xs := xs) (sqB_to hS1) (fun D i H2 => Same H1 H2 ∧ H2 D = some (.lst (List.replicate i (V.bl true)))) ?_ ?_ ?_ ?_⟩
    · intro D hD
      exact ⟨same_upd hD, upd_same⟩
    · intro D i H2 hD ⟨s2, _⟩
      exact ⟨same_sqL s2, same_sqT s2⟩
    · intro D i x H2 nD hi ⟨s2, e2⟩
      obtain ⟨di, h1, h2⟩ := (Dts.mono s1 hD).at hi
      refine ⟨rfl, ?_⟩
      have hlt := (List.getElem?_eq_some_iff.mp hi).1
      have rt := hR i di h1
      have sm := some_ di (List.mem_of_getElem? h1)
      refine ⟨_, rfl, .int 0, x, .int 0, di, rfl, .int 0, h2.mono s2, fun t b t' b' e3 e4 => ?_, (fun z => by cases z), (fun _ z => by rw [z] at sm; cases sm)⟩
      cases e3
      obtain ⟨_, _, z1, z2, hb⟩ := rt.low e4
      have hp := rt_pos rt e4 (ps i (by omega))
      refine ⟨sz_01.1, sz_01.2, z1, z2, fun H3 s3 => ?_⟩
      rw [decide_eq_true (show (0 : Int) * b' < t' * 1 by omega)]
      refine ⟨_, s3 _ _ e2, ?_, (fun b o e => ?_), ?_⟩
      · rw [List.length_replicate, sizeLine_eq]
        omega
      · rw [upd_ne (ne_of_none e nD)]
        exact s3 _ _ (s2 _ _ e)
      · rw [upd_same, List.replicate_succ']
    · intro D H2 nD ⟨s2, e2⟩
      refine ⟨D, List.replicate xs.length true, rfl, ?_, ?_⟩
      · rw [List.map_replicate]
        exact SqL.of e2
      · have e : (List.replicate xs.length true).all id = true := by
          rw [List.all_replicate]
          simp
        rw [e]
        refine ⟨_, rfl, ?_⟩
        refine iteF ?_
        exact q H2 (s1.trans s2)
end

theorem pe_fldK {X : Cx} {e : Expr} {f : Str} {pos : Pos} {ta : TE} {K : PySem.W.Frag} (hk : X.K = K) (he : PE X e ta) (hb : attributeBase e f X.env (eval e X.env) = eval e X.env) : PE X (.Attribute e f pos) (tFld K ta f) := by
  subst hk
  exact pe_fld he hb
/-- the numbers of a polynomial in steps -/
def wq (nums qs : List Rat) (i : Nat) : Rat := cf nums i / cf qs i
def onG (nums qs : List Rat) : Option (List Int) := if qs.length < nums.length then none else if (∀ i, i < qs.length → (wq nums qs i).den = 1) then some ((tab qs.length (wq nums qs)).map (·.num)) else none
def spOnG (K : PySem.W.Frag) (CP : Addr) : Sp := fun vs H Q _ => ∃ (a : Addr) (v : V) (nums qs : List Rat), vs = [.ref a, v] ∧ PolyQ K CP H a nums ∧ StO K H v qs ∧ (∀ i, Z2 (cf nums i)) ∧
  (onG nums qs = none → ∀ H', Same H H' → Q .non H') ∧ ∀ ns, onG nums qs = some ns → ∀ (t : Addr) (H' : Hp), Same H H' → H' t = some (.tup (ns.map V.int)) → Q (.ref t) H'
/-- a number of a polynomial over a step -/
theorem share_low {c q : Rat} {t b : Int} (h : q * (b : Rat) = (t : Rat)) (hb : 0 < b) (ht : 0 < t) : low (c.num * b) ((c.den : Int) * t) = pq (c / q) := by
  have hb' : (b : Rat) ≠ 0 := cast_ne (by omega)
  have ht' : (t : Rat) ≠ 0 := cast_ne (by omega)
  have hc' : ((c.den : Nat) : Rat) ≠ 0 := by have := c.den_nz; exact_mod_cast this
  have hq : q ≠ 0 := fun z => by rw [z, Rat.zero_mul] at h; exact ht' h.symm
  have h0 : (c.den : Int) * t ≠ 0 := Int.mul_ne_zero (by have := c.den_nz; omega) (by omega)
  refine low_mul h0 ?_
  have e1 : ((((c.den : Nat) : Int) * t : Int) : Rat) = ((c.den : Nat) : Rat) * (t : Rat) := by exact_mod_cast rfl
  have e2 : ((c.num * b : Int) : Rat) = (c.num : Rat) * (b : Rat) := by exact_mod_cast rfl
  rw [e1, e2, ← num_den c, ← h]
  have e3 : c / q * q = c := Rat.div_mul_cancel hq
  calc c / q * (((c.den : Nat) : Rat) * (q * (b : Rat))) = (c / q * q) * ((c.den : Nat) : Rat) * (b : Rat) := by grind
    _ = c * ((c.den : Nat) : Rat) * (b : Rat) := by rw [e3]
section
variable {P : Program} {w : World} {K : PySem.W.Frag} {mg : Str → Option Value} {base : Heap} {CP CR CN : Addr}
abbrev sOnGrid : Stmt := topS 33
theorem scOnGrid : FnScope ["poly", "steps", "row", "power", "step", "_", "bottom", "top"] ["poly", "steps"] (defScope sOnGrid) := ⟨rfl, rfl, rfl, by decide +kernel, rfl, by decide +kernel, by decide +kernel⟩
theorem ok_on_grid {f : Addr} {fd : FuncData} (F : Fun K "on_grid" "on_grid" sOnGrid f fd) (T : Bk mg) (B : Bi mg) (hall : mg "all" = none) (henum : mg "enumerate" = none) (PM : PoM P w K mg base CP CR) (M_degree : Me P w K mg base CP "degree" 1 ["self"] (spPolyD K CP)) (G_need_steps : Df P w K mg base "need_steps" 6 ["steps"] (spNeed K)) (G_number_of : Df P w K mg base "number_of" 1 ["numbers", "power"] (spNumOf K)) (G_share : Dx P w K mg base "share" 4 ["one", "other"] (spTwo K CN (okShare CN))) :
    FnOk P w K mg base CX0 7 f fd ["poly", "steps"] (spOnG K CP) := by
  refine F.ok scOnGrid (fun vs H Q E h => ?_) (fun cdv A outer s H vs Q E hr h => ?_)
  · obtain ⟨a, v, nums, qs, rfl, _⟩ := h
    rfl
  · obtain ⟨a, v, nums, qs, rfl, hP, hT, hz, qn, qs_⟩ := h
    refine ⟨_, (pss_cons (ps_expr (pe_call G_need_steps.ok (hr.mono (by decide)) rfl G_need_steps.m G_need_steps.kp G_need_steps.b .nil pass0 (pa_cons (pv 1) pa_nil)))
  (pss_cons (ps_if (pt_cmpR op_ge (pe_meth0 (pv 0) PM.C.cl M_degree.m M_degree.ok (hr.mono (by decide)) M_degree.b .nil pass0) (pe_callB call_len_seq (by rfl) T.len (by decide +kernel) (pa_cons (pv 1) pa_nil)) (nomark _))
    (pss_one (ps_ret pe_non))
    pss_nil)
  (pss_cons (ps_setLc (i := 2) (own := [("power", 3), ("step", 4)]) (g := (gTup K 2 (gCons (gName 3) (gCons (gName 4) gNil)))) (tt := tYes) rfl scOnGrid.nd rfl rfl (sw_true rfl rfl rfl (by decide +kernel)) (pi_enumB (by rfl) henum (pa_cons (pv 1) pa_nil)) (blkOk_by (N := ["poly", "steps", "row", "power", "step", "_", "bottom", "top"]) (sc := defScope sOnGrid) (by decide +kernel)) (fun _ _ _ _ _ => pg_tup rfl (pgs_cons (pg_name (i := 3) scOnGrid.nd rfl (Or.inl rfl)) (pgs_cons (pg_name (i := 4) scOnGrid.nd rfl (Or.inl rfl)) pgs_nil))) (fun _ _ _ _ _ => pts_nil) (fun _ _ _ _ _ => (pe_call G_share.ok (hr.mono (by decide)) rfl G_share.m G_share.kp G_share.b .nil passL (pa_cons (pe_call G_number_of.ok (hr.mono (by decide)) rfl G_number_of.m G_number_of.kp G_number_of.b .nil pass0 (pa_cons (pe_fldK (K := K) rfl (pv 0) rfl) (pa_cons (pv 3) pa_nil))) (pa_cons (pv 4) pa_nil)))))
  (pss_one (ps_ret (pe_ifExp (pt_val (pe_callB (cr_all rfl) (by rfl) hall (by decide +kernel) (pa_cons (pe_lc (own := [("_", 5), ("bottom", 6)]) (g := (gTup K 2 (gCons (gName 5) (gCons (gName 6) gNil)))) (tt := tYes) rfl scOnGrid.nd (pi_seq (pv 2)) (blkOk_by (N := ["poly", "steps", "row", "power", "step", "_", "bottom", "top"]) (sc := defScope sOnGrid) (by decide +kernel)) (fun _ _ _ _ _ => pg_tup rfl (pgs_cons (pg_name (i := 5) scOnGrid.nd rfl (Or.inl rfl)) (pgs_cons (pg_name (i := 6) scOnGrid.nd rfl (Or.inl rfl)) pgs_nil))) (fun _ _ _ _ _ => pts_nil) (fun _ _ _ _ _ => (pe_cmpR op_eq (pv 6) pe_int (nomark _)))) pa_nil))) (pe_callTy call_tuple_of (by rfl) T.tuple (by decide +kernel) (pa_cons (pe_lc (own := [("top", 7), ("_", 5)]) (g := (gTup K 2 (gCons (gName 7) (gCons (gName 5) gNil)))) (tt := tYes) rfl scOnGrid.nd (pi_seq (pv 2)) (blkOk_by (N := ["poly", "steps", "row", "power", "step", "_", "bottom", "top"]) (sc := defScope sOnGrid) (by decide +kernel)) (fun _ _ _ _ _ => pg_tup rfl (pgs_cons (pg_name (i := 7) scOnGrid.nd rfl (Or.inl rfl)) (pgs_cons (pg_name (i := 5) scOnGrid.nd rfl (Or.inl rfl)) pgs_nil))) (fun _ _ _ _ _ => pts_nil) (fun _ _ _ _ _ => (pv 7))) pa_nil)) pe_non)))))), ?_⟩
    refine ⟨_, rfl, v, qs, rfl, hT, fun H1 s1 => ?_⟩
    obtain ⟨⟨sa, p, xs, ds, rfl, hS, hD, hl, hR⟩, n1, n5, ps⟩ := hT.same s1
    obtain ⟨da, ta, za, ha1, ha2, ha3⟩ := hP.same s1
    have hn := ha3.lenQ
    have dl := hD.len
    refine ⟨_, rfl, a, da, _, rfl, ha1, (by kernel_rfl), _, nums.map pq, rfl, ⟨da, ta, za, ha1, ha2, ha3⟩, ?_⟩
    refine ⟨_, rfl, sa, xs, rfl, sqB_to hS, _, _, rfl, rfl, _, rfl, ?_⟩
    rw [List.length_map]
    by_cases hlen : qs.length < nums.length
    · rw [decide_eq_true (show ((xs.length : Nat) : Int) ≤ ((nums.length : Nat) : Int) - 1 by omega)]
      refine iteT ?_
      exact qn (by unfold onG; rw [if_pos hlen]) H1 s1
    · rw [decide_eq_false (show ¬ ((xs.length : Nat) : Int) ≤ ((nums.length : Nat) : Int) - 1 by omega)]
      refine iteF ?_
      refine ⟨_, rfl, p, sa, xs, rfl, hS, fun D nD => ?_⟩
      refine lc_enumB (xs := xs) (fun i H' => Same H1 H' ∧ ∃ zs, H' D = some (.lst (zs.map V.ref)) ∧ Tups H' zs ((tab i (wq nums qs)).map pq)) ⟨same_upd nD, [], upd_same, .nil⟩ (fun i H' h => hS.same h.1) ?_ ?_
      · rintro i x T H' hi ⟨ss, zs, eD, tz⟩ nT
        have sT : Same H' (upd H' T (HO.tup [V.int (i : Nat), x])) := same_upd nT
        have eT : upd H' T (HO.tup [V.int (i : Nat), x]) T = some (HO.tup [V.int (i : Nat), x]) := upd_same
        generalize upd H' T (HO.tup [V.int (i : Nat), x]) = H2 at sT eT ⊢
        obtain ⟨di, h1, h2⟩ := hD.at hi
        have hlt := (List.getElem?_eq_some_iff.mp hi).1
        have rt := hR i di h1
        have s12 := ss.trans sT
        refine ⟨T, _, rfl, SqT.of eT, rfl, _, _, rfl, _, _, rfl, rfl, rfl, ?_⟩
        refine ⟨_, rfl, a, CP, da, _, .ref ta, rfl, s12 _ _ ha1, PM.C.cl, PM.C.nf, (by kernel_rfl), _, rfl, ta, nums, i, rfl, ⟨za, .inr (SqT.of (s12 _ _ ha2)), ha3.same s12⟩, fun r H3 s3 tr => ?_⟩
        refine ⟨_, rfl, _, _, pairD (pq (cf nums i)), di, rfl, .tup (SqT.of tr) (.cons (.int _) (.cons (.int _) .nil)), (h2.mono s12).mono s3, fun t b t' b' e3 e4 => ?_, (fun z => by rw [parts_q] at z; cases z), (fun _ z => by obtain ⟨t, b, e5, _⟩ := rt.e; rw [e5] at z; cases z)⟩
        rw [parts_q] at e3
        cases e3
        obtain ⟨_, hqe, z1, z2, hb⟩ := rt.low e4
        have hp := rt_pos rt e4 (ps i (by omega))
        refine ⟨(hz i).1, (hz i).2, z1, z2, (fun z => absurd z (by omega)), fun _ r' H4 s4 er => ?_⟩
        have er : TR H4 r' (wq nums qs i) := by
          have z := share_low (c := cf nums i) hqe hb hp
          unfold gShare at er
          rw [z] at er
          exact er
        have eD' := s4 _ _ (s3 _ _ (sT _ _ eD))
        refine ⟨_, eD', ?_, (fun b' o' e' => ?_), zs ++ [r'], ?_, ?_⟩
        · have := tz.lenQ
          rw [tab_len] at this
          rw [List.length_map, sizeLine_eq]
          omega
        · rw [upd_ne (ne_of_none e' nD)]
          exact s4 _ _ (s3 _ _ (s12 _ _ e'))
        · rw [upd_same, List.map_append]
          rfl
        · rw [tab_snoc]
          have up : ∀ (c : Addr) (p : Int × Int), H4 c = some (.tup [.int p.1, .int p.2]) → upd H4 D (.lst (zs.map V.ref ++ [V.ref r'])) c = some (.tup [.int p.1, .int p.2]) := fun c p z => by
            rw [upd_ne (ne_of z eD' (by intro z; cases z))]
            exact z
          exact Tups.snocQ ((((tz.same sT).same s3).same s4).imp up) (up _ (pq _) er)
      · rintro H' ⟨ss, zs, eD, tz⟩
        rw [hl] at tz
        have lz := tz.lenQ
        rw [tab_len] at lz
        have dec : ∀ d : Nat, decide (V.int (d : Int) = V.int 1) = decide (d = 1) := fun d => by
          by_cases h : d = 1
          · rw [h]; rfl
          · rw [decide_eq_false h, decide_eq_false (fun z => h (by have z2 := V.int.inj z; omega))]
        refine ⟨_, rfl, D, rfl, lc_seq (xs := zs.map V.ref) (.inl (SqL.of eD)) (fun D2 i H2 => Same H' H2 ∧ H2 D2 = some (.lst (((List.range i).map fun j => decide ((wq nums qs j).den = 1)).map V.bl))) ?_ ?_ ?_ ?_⟩
        · intro D2 n2
          exact ⟨same_upd n2, upd_same⟩
        · intro D2 i H2 n2 ⟨s2, _⟩
          exact ⟨same_sqL s2, same_sqT s2⟩
        · intro D2 i x H2 n2 hi ⟨s2, e2⟩
          rw [List.getElem?_map] at hi
          cases hr0 : zs[i]? with
          | none => rw [hr0] at hi; cases hi
          | some r =>
            rw [hr0] at hi
            cases hi
            obtain ⟨qq, hq1, hq2⟩ := tz.atQ hr0
            have ilt := (List.getElem?_eq_some_iff.mp hr0).1
            have hc : qq = wq nums qs i := by
              have := cf_get hq1
              rw [cf_tab, if_pos (by omega)] at this
              exact this.symm
            refine ⟨r, _, rfl, SqT.of (s2 _ _ hq2), rfl, _, _, rfl, _, _, rfl, rfl, rfl, ?_⟩
            refine ⟨_, rfl, rfl, ?_⟩
            rw [dec, hc]
            refine ⟨_, e2, ?_, (fun b o e => ?_), ?_⟩
            · rw [List.length_map, List.length_map, List.length_range, sizeLine_eq]
              omega
            · rw [upd_ne (ne_of_none e n2)]
              exact s2 _ _ e
            · rw [upd_same, List.range_succ, List.map_append, List.map_append]
              rfl
        · intro D2 H2 n2 ⟨s2, e2⟩
          rw [List.length_map, lz] at e2
          refine ⟨D2, _, rfl, SqL.of e2, _, rfl, ?_⟩
          by_cases ha : ∀ i, i < qs.length → (wq nums qs i).den = 1
          · have eb : ((List.range qs.length).map fun j => decide ((wq nums qs j).den = 1)).all id = true := by
              rw [List.all_map, List.all_eq_true]
              intro j hj
              exact decide_eq_true (ha j (List.mem_range.mp hj))
            rw [eb]
            refine iteT ?_
            have eo : onG nums qs = some ((tab qs.length (wq nums qs)).map (·.num)) := by
              unfold onG
              rw [if_neg hlen, if_pos ha]
            have eD2 := s2 _ _ eD
            have tz2 := tz.same s2
            refine ⟨_, rfl, D, rfl, lc_seq (xs := zs.map V.ref) (.inl (SqL.of eD2)) (fun D3 i H3 => Same H2 H3 ∧ H3 D3 = some (.lst (((tab i (wq nums qs)).map (·.num)).map V.int))) ?_ ?_ ?_ ?_⟩
            · intro D3 n3
              exact ⟨same_upd n3, upd_same⟩
            · intro D3 i H3 n3 ⟨s3, _⟩
              exact ⟨same_sqL s3, same_sqT s3⟩
            · intro D3 i x H3 n3 hi ⟨s3, e3⟩
              rw [List.getElem?_map] at hi
              cases hr0 : zs[i]? with
              | none => rw [hr0] at hi; cases hi
              | some r =>
                rw [hr0] at hi
                cases hi
                obtain ⟨qq, hq1, hq2⟩ := tz2.atQ hr0
                have ilt := (List.getElem?_eq_some_iff.mp hr0).1
                have hc : qq = wq nums qs i := by
                  have := cf_get hq1
                  rw [cf_tab, if_pos (by omega)] at this
                  exact this.symm
                refine ⟨r, _, rfl, SqT.of (s3 _ _ hq2), rfl, _, _, rfl, _, _, rfl, rfl, rfl, ?_⟩
                refine ⟨_, rfl, ?_⟩
                refine ⟨_, e3, ?_, (fun b o e => ?_), ?_⟩
                · rw [List.length_map, List.length_map, tab_len, sizeLine_eq]
                  omega
                · rw [upd_ne (ne_of_none e n3)]
                  exact s3 _ _ e
                · rw [upd_same, tab_snoc, List.map_append, List.map_append, hc]
                  rfl
            · intro D3 H3 n3 ⟨s3, e3⟩
              rw [List.length_map, lz] at e3
              refine ⟨D3, _, rfl, .inl ⟨SqL.of e3, fun l nl => ?_⟩⟩
              exact qs_ _ eo l _ ((s1.trans ss).trans (s2.trans (s3.trans (same_upd nl)))) upd_same
          · have eb : ((List.range qs.length).map fun j => decide ((wq nums qs j).den = 1)).all id = false := by
              rw [← Bool.not_eq_true]
              intro z
              rw [List.all_map, List.all_eq_true] at z
              exact ha fun i hi => of_decide_eq_true (z i (List.mem_range.mpr hi))
            rw [eb]
            refine iteF ?_
            exact qn (by unfold onG; rw [if_neg hlen, if_neg ha]) _ ((s1.trans ss).trans s2)
end

/-- the numbers of whole numbers times steps -/
def gq (ns : List Int) (qs : List Rat) : List Rat := tab qs.length fun i => ((ci ns i : Int) : Rat) * cf qs i
/-- a row of whole numbers, a list or a tuple -/
def IR (K : PySem.W.Frag) (H : Hp) (v : V) (ns : List Int) : Prop := ∃ a p, v = .ref a ∧ SqB p K H a (ns.map V.int)
theorem IR.same {K : PySem.W.Frag} {H H' : Hp} {v : V} {ns : List Int} (h : IR K H v ns) (s : Same H H') : IR K H' v ns := by
  obtain ⟨a, p, e, h⟩ := h
  exact ⟨a, p, e, h.same s⟩
theorem dts_ints {K : PySem.W.Frag} {H : Hp} : ∀ ns : List Int, Dts K H (ns.map V.int) (ns.map PyData.int)
  | [] => .nil
  | n :: r => .cons (.int n) (dts_ints r)
theorem ints_at {ns : List Int} {i : Nat} (h : i < ns.length) : (ns.map V.int)[i]? = some (V.int (ci ns i)) := by
  rw [List.getElem?_map, ci_lt h]
  rfl
theorem times_low {n : Int} {q : Rat} {t b : Int} (h : q * (b : Rat) = (t : Rat)) (hb : 0 < b) : low (n * t) (1 * b) = pq ((n : Rat) * q) := by
  refine low_mul (by omega) ?_
  have e1 : ((1 * b : Int) : Rat) = (b : Rat) := by rw [Int.one_mul]
  have e2 : ((n * t : Int) : Rat) = (n : Rat) * (t : Rat) := by exact_mod_cast rfl
  rw [e1, e2, ← h, Rat.mul_assoc]
theorem den_le {A M : Int} {q : Rat} (hM : M ≠ 0) (h : q * (M : Rat) = (A : Rat)) : q.den ≤ M.natAbs := by
  have z := low_mul hM h
  have s2 := (low_size (t := A) hM).2
  rw [z] at s2
  have s2 : ((q.den : Nat) : Int).natAbs ≤ M.natAbs := s2
  omega
theorem sz_big {z : Int} (h : Sz z) : z.natAbs < 2 ^ big := Nat.lt_trans h (Nat.pow_lt_pow_right (by decide) (by decide))
def spGP (K : PySem.W.Frag) (CP : Addr) : Sp := fun vs H Q _ => ∃ (v u : V) (ns : List Int) (qs : List Rat), vs = [v, u] ∧ IR K H v ns ∧ StO K H u qs ∧ ns.length = qs.length ∧ (∀ i, Sz (ci ns i)) ∧
  ∀ (x : Addr) (H' : Hp), Same H H' → H x = none → PolyQ K CP H' x (stripQ (gq ns qs)) → Q (.ref x) H'
section
variable {P : Program} {w : World} {K : PySem.W.Frag} {mg : Str → Option Value} {base : Heap} {CP CR CN : Addr}
abbrev sGPoly : Stmt := topS 34
theorem scGPoly : FnScope ["row", "steps", "item", "step"] ["row", "steps"] (defScope sGPoly) := ⟨rfl, rfl, rfl, by decide +kernel, rfl, by decide +kernel, by decide +kernel⟩
theorem ok_grid_poly {f : Addr} {fd : FuncData} (F : Fun K "grid_poly" "grid_poly" sGPoly f fd) (T : Bk mg) (hall : mg "all" = none) (hzip : mg "zip" = none) (PM : PoM P w K mg base CP CR) (G_need_steps : Df P w K mg base "need_steps" 6 ["steps"] (spNeed K)) (G_is_whole : Df P w K mg base "is_whole" 1 ["value"] (spWhole K)) (G_times : Dx P w K mg base "times" 4 ["one", "other"] (spTwo K CN (okLow gTimes))) :
    FnOk P w K mg base CX0 7 f fd ["row", "steps"] (spGP K CP) := by
  refine F.ok scGPoly (fun vs H Q E h => ?_) (fun cdv A outer s H vs Q E hr h => ?_)
  · obtain ⟨v, u, ns, qs, rfl, _⟩ := h
    rfl
  · obtain ⟨v, u, ns, qs, rfl, hv, hT, hns, hz, q⟩ := h
    refine ⟨_, (pss_cons (ps_expr (pe_call G_need_steps.ok (hr.mono (by decide)) rfl G_need_steps.m G_need_steps.kp G_need_steps.b .nil pass0 (pa_cons (pv 1) pa_nil)))
  (pss_cons (ps_if (PW.pt (pw_or (pt_not (pt_val (pe_callB call_isiT (by rfl) T.isinstance (by decide +kernel) (pa_cons (pv 0) (pa_cons (pe_tup (pa_cons (pe_bltn (v := V.ty "tuple") (by rfl) T.tuple (by decide +kernel) rfl) (pa_cons (pe_bltn (v := V.ty "list") (by rfl) T.list (by decide +kernel) rfl) pa_nil))) pa_nil))))) (pw_or (pt_cmpR op_ne (pe_callB call_len_seq (by rfl) T.len (by decide +kernel) (pa_cons (pv 0) pa_nil)) (pe_callB call_len_seq (by rfl) T.len (by decide +kernel) (pa_cons (pv 1) pa_nil)) (nomark _)) (pw_or1 (pt_not (pt_val (pe_callB (cr_all rfl) (by rfl) hall (by decide +kernel) (pa_cons (pe_lc (own := [("item", 2)]) (g := (gName 2)) (tt := tYes) rfl scGPoly.nd (pi_seq (pv 0)) (blkOk_by (N := ["row", "steps", "item", "step"]) (sc := defScope sGPoly) (by decide +kernel)) (fun _ _ _ _ _ => pg_name (i := 2) scGPoly.nd rfl (Or.inl rfl)) (fun _ _ _ _ _ => pts_nil) (fun _ _ _ _ _ => (pe_call G_is_whole.ok (hr.mono (by decide)) rfl G_is_whole.m G_is_whole.kp G_is_whole.b .nil pass0 (pa_cons (pv 2) pa_nil)))) pa_nil))))))))
    pss_no
    pss_nil)
  (pss_one (ps_ret (pe_make PM.mkI PM.okI (hr.mono (by decide)) rfl PM.C.m PM.bI .nil passL (pa_cons (pe_lc (own := [("item", 2), ("step", 3)]) (g := (gTup K 2 (gCons (gName 2) (gCons (gName 3) gNil)))) (tt := tYes) rfl scGPoly.nd (pi_zipB (by rfl) hzip (pa_cons (pv 0) (pa_cons (pv 1) pa_nil))) (blkOk_by (N := ["row", "steps", "item", "step"]) (sc := defScope sGPoly) (by decide +kernel)) (fun _ _ _ _ _ => pg_tup rfl (pgs_cons (pg_name (i := 2) scGPoly.nd rfl (Or.inl rfl)) (pgs_cons (pg_name (i := 3) scGPoly.nd rfl (Or.inl rfl)) pgs_nil))) (fun _ _ _ _ _ => pts_nil) (fun _ _ _ _ _ => (pe_call G_times.ok (hr.mono (by decide)) rfl G_times.m G_times.kp G_times.b .nil passL (pa_cons (pv 2) (pa_cons (pv 3) pa_nil))))) pa_nil)))))), ?_⟩
    refine ⟨_, rfl, u, qs, rfl, hT, fun H1 s1 => ?_⟩
    obtain ⟨ra, rp, rfl, hr0⟩ := hv.same s1
    obtain ⟨⟨sa, p, xs, ds, rfl, hS, hD, hl, hR⟩, n1, n5, ps⟩ := hT.same s1
    have dl := hD.len
    refine ⟨_, rfl, (by show 2 ≤ sizeLine; decide), fun tp ntp => ?_⟩
    have s2 : Same H1 (upd H1 tp (HO.tup [V.ty "tuple", V.ty "list"])) := same_upd ntp
    have e2 : upd H1 tp (HO.tup [V.ty "tuple", V.ty "list"]) tp = some (HO.tup [V.ty "tuple", V.ty "list"]) := upd_same
    generalize upd H1 tp (HO.tup [V.ty "tuple", V.ty "list"]) = H2 at s2 e2 ⊢
    have hr2 := hr0.same s2
    have hS2 := hS.same s2
    have hD2 := Dts.mono s2 hD
    obtain ⟨dd, hdd, sdd⟩ : ∃ dd, Dt K H2 (.ref ra) dd ∧ seqD dd = some (ns.map PyData.int) := by
      cases rp
      · exact ⟨_, .tup hr2 (dts_ints ns), rfl⟩
      · exact ⟨_, .lst hr2 (dts_ints ns), rfl⟩
    refine ⟨_, tp, _, _, [.type "tuple", .type "list"], _, rfl, e2, .cons (.ty _) (.cons (.ty _) .nil), hdd.ty, kit_seq dd, _, rfl, ?_⟩
    rw [sdd]
    refine iteF ?_
    refine ⟨_, rfl, ra, _, rfl, sqB_to hr2, _, rfl, sa, xs, rfl, sqB_to hS2, rNe_int (fun _ => ?_) (fun z => absurd (by rw [List.length_map]; omega) z)⟩
    refine iteF ?_
    refine ⟨_, rfl, ra, rfl, lc_seq (xs := ns.map V.int) (sqB_to hr2) (fun D i H3 => Same H2 H3 ∧ H3 D = some (.lst (List.replicate i (V.bl true)))) ?_ ?_ ?_ ?_⟩
    · intro D nD
      exact ⟨same_upd nD, upd_same⟩
    · intro D i H3 nD ⟨s3, _⟩
      exact ⟨same_sqL s3, same_sqT s3⟩
    · intro D i x H3 nD hi ⟨s3, e3⟩
      have ilt := (List.getElem?_eq_some_iff.mp hi).1
      rw [List.length_map] at ilt
      rw [ints_at ilt] at hi
      cases hi
      refine ⟨rfl, ?_⟩
      refine ⟨_, rfl, _, .int (ci ns i), rfl, .int _, ?_⟩
      refine ⟨_, e3, ?_, (fun b o e => ?_), ?_⟩
      · rw [List.length_replicate, sizeLine_eq]
        omega
      · rw [upd_ne (ne_of_none e nD)]
        exact s3 _ _ e
      · rw [upd_same, List.replicate_succ']
        rfl
    · intro D H3 nD ⟨s3, e3⟩
      refine ⟨D, List.replicate (ns.map V.int).length true, rfl, ?_, ?_⟩
      · rw [List.map_replicate]
        exact SqL.of e3
      · have e : (List.replicate (ns.map V.int).length true).all id = true := by
          rw [List.all_replicate]
          simp
        rw [e]
        refine ⟨_, rfl, ?_⟩
        refine iteF ?_
        have s12 := s2.trans s3
        have hr3 := hr0.same s12
        have hS3 := hS.same s12
        have hD3 := Dts.mono s12 hD
        refine ⟨_, rfl, _, rfl, rp, p, ra, sa, _, xs, rfl, hr3, hS3, fun D' nD' => ?_⟩
        refine lc_zipB (xs := ns.map V.int) (ys := xs) (by rw [List.length_map]; omega) (fun i H' => Same H3 H' ∧ ∃ zs, H' D' = some (.lst (zs.map V.ref)) ∧ Tups H' zs ((tab i fun i => ((ci ns i : Int) : Rat) * cf qs i).map pq)) ⟨same_upd nD', [], upd_same, .nil⟩ (fun i H' h => ⟨hr3.same h.1, hS3.same h.1⟩) ?_ ?_
        · rintro i y x T H' hy hi ⟨ss, zs, eD, tz⟩ nT
          have ilt := (List.getElem?_eq_some_iff.mp hy).1
          rw [List.length_map] at ilt
          rw [ints_at ilt] at hy
          cases hy
          have sT : Same H' (upd H' T (HO.tup [V.int (ci ns i), x])) := same_upd nT
          have eT : upd H' T (HO.tup [V.int (ci ns i), x]) T = some (HO.tup [V.int (ci ns i), x]) := upd_same
          generalize upd H' T (HO.tup [V.int (ci ns i), x]) = H4 at sT eT ⊢
          obtain ⟨di, h1, h2⟩ := hD3.at hi
          have rt := hR i di h1
          have s14 := ss.trans sT
          refine ⟨T, _, rfl, SqT.of eT, rfl, _, _, rfl, _, _, rfl, rfl, rfl, ?_⟩
          refine ⟨_, rfl, _, rfl, _, _, .int (ci ns i), di, rfl, .int _, h2.mono s14, fun t b t' b' e3 e4 => ?_, (fun z => by cases z), (fun _ z => by obtain ⟨t, b, e5, _⟩ := rt.e; rw [e5] at z; cases z)⟩
          cases e3
          obtain ⟨_, hqe, z1, z2, hb⟩ := rt.low e4
          refine ⟨hz i, sz_01.2, z1, z2, fun r' H5 s5 er => ?_⟩
          have er : TR H5 r' (((ci ns i : Int) : Rat) * cf qs i) := by
            have z := times_low (n := ci ns i) hqe hb
            unfold gTimes at er
            rw [z] at er
            exact er
          have eD' := s5 _ _ (sT _ _ eD)
          refine ⟨_, eD', ?_, (fun b' o' e' => ?_), zs ++ [r'], ?_, ?_⟩
          · have := tz.lenQ
            rw [tab_len] at this
            rw [List.length_map, sizeLine_eq]
            omega
          · rw [upd_ne (ne_of_none e' nD')]
            exact s5 _ _ (s14 _ _ e')
          · rw [upd_same, List.map_append]
            rfl
          · rw [tab_snoc]
            have up : ∀ (c : Addr) (p : Int × Int), H5 c = some (.tup [.int p.1, .int p.2]) → upd H5 D' (.lst (zs.map V.ref ++ [V.ref r'])) c = some (.tup [.int p.1, .int p.2]) := fun c p z => by
              rw [upd_ne (ne_of z eD' (by intro z; cases z))]
              exact z
            exact Tups.snocQ (((tz.same sT).same s5).imp up) (up _ (pq _) er)
        · rintro H' ⟨ss, zs, eD, tz⟩
          rw [List.length_map, hns] at tz
          refine poly_rl (CR := CR) (qs := gq ns qs) ⟨zs, eD, tz⟩ (by unfold gq; rw [tab_len]; omega) (fun w hw => ?_) (fun x H6 s6 nx hx => ?_)
          · obtain ⟨i, hi, rfl⟩ := List.mem_iff_getElem.mp hw
            have hi' : i < qs.length := by unfold gq at hi; rw [tab_len] at hi; exact hi
            have e : (gq ns qs)[i] = ((ci ns i : Int) : Rat) * cf qs i := by
              have := cf_lt hi
              unfold gq at this ⊢
              rw [cf_tab, if_pos hi'] at this
              exact this.symm
            rw [e]
            obtain ⟨di, h1, h2⟩ := hD.at (List.getElem?_eq_getElem (show i < xs.length by omega))
            obtain ⟨t, b, e5, hqe, z1, z2⟩ := (hR i di h1).e
            have hb := parts_pos e5
            refine Nat.lt_of_le_of_lt (den_le (A := ci ns i * t) (M := b) (by omega) ?_) (sz_big z2)
            rw [Rat.mul_assoc, hqe]
            exact_mod_cast rfl
          · exact q x H6 (((s1.trans s12).trans ss).trans s6) ((s1.trans s12).free (ss.free nx)) hx
end

/-- the nearest whole numbers -/
def nr (nums qs : List Rat) : List Int := (tab qs.length (wq nums qs)).map fun w => gNear w.num w.den
def spNR (K : PySem.W.Frag) (CP : Addr) : Sp := fun vs H Q _ => ∃ (a : Addr) (v : V) (nums qs : List Rat), vs = [.ref a, v] ∧ PolyQ K CP H a nums ∧ StO K H v qs ∧ nums.length ≤ qs.length ∧ (∀ i, Z2 (cf nums i)) ∧ (∀ i, i < qs.length → Z2 (wq nums qs i)) ∧
  ∀ (t : Addr) (H' : Hp), Same H H' → H' t = some (.tup ((nr nums qs).map V.int)) → Q (.ref t) H'
section
variable {P : Program} {w : World} {K : PySem.W.Frag} {mg : Str → Option Value} {base : Heap} {CP CR CN : Addr}
abbrev sNRow : Stmt := topS 35
theorem scNRow : FnScope ["poly", "steps", "power", "step"] ["poly", "steps"] (defScope sNRow) := ⟨rfl, rfl, rfl, by decide +kernel, rfl, by decide +kernel, by decide +kernel⟩
theorem ok_nearest_row {f : Addr} {fd : FuncData} (F : Fun K "nearest_row" "nearest_row" sNRow f fd) (T : Bk mg) (henum : mg "enumerate" = none) (PM : PoM P w K mg base CP CR) (M_degree : Me P w K mg base CP "degree" 1 ["self"] (spPolyD K CP)) (G_need_steps : Df P w K mg base "need_steps" 6 ["steps"] (spNeed K)) (G_number_of : Df P w K mg base "number_of" 1 ["numbers", "power"] (spNumOf K)) (G_share : Dx P w K mg base "share" 4 ["one", "other"] (spTwo K CN (okShare CN))) (G_nearest_whole : Dx P w K mg base "nearest_whole" 5 ["value"] (spNear K CN gNear)) :
    FnOk P w K mg base CX0 7 f fd ["poly", "steps"] (spNR K CP) := by
  refine F.ok scNRow (fun vs H Q E h => ?_) (fun cdv A outer s H vs Q E hr h => ?_)
  · obtain ⟨a, v, nums, qs, rfl, _⟩ := h
    rfl
  · obtain ⟨a, v, nums, qs, rfl, hP, hT, hlen, hz, hw, q⟩ := h
    refine ⟨_, (pss_cons (ps_expr (pe_call G_need_steps.ok (hr.mono (by decide)) rfl G_need_steps.m G_need_steps.kp G_need_steps.b .nil pass0 (pa_cons (pv 1) pa_nil)))
  (pss_cons (ps_if (pt_cmpR op_ge (pe_meth0 (pv 0) PM.C.cl M_degree.m M_degree.ok (hr.mono (by decide)) M_degree.b .nil pass0) (pe_callB call_len_seq (by rfl) T.len (by decide +kernel) (pa_cons (pv 1) pa_nil)) (nomark _))
    pss_no
    pss_nil)
  (pss_one (ps_ret (pe_callTy call_tuple_of (by rfl) T.tuple (by decide +kernel) (pa_cons (pe_lc (own := [("power", 2), ("step", 3)]) (g := (gTup K 2 (gCons (gName 2) (gCons (gName 3) gNil)))) (tt := tYes) rfl scNRow.nd (pi_enumB (by rfl) henum (pa_cons (pv 1) pa_nil)) (blkOk_by (N := ["poly", "steps", "power", "step"]) (sc := defScope sNRow) (by decide +kernel)) (fun _ _ _ _ _ => pg_tup rfl (pgs_cons (pg_name (i := 2) scNRow.nd rfl (Or.inl rfl)) (pgs_cons (pg_name (i := 3) scNRow.nd rfl (Or.inl rfl)) pgs_nil))) (fun _ _ _ _ _ => pts_nil) (fun _ _ _ _ _ => (pe_call G_nearest_whole.ok (hr.mono (by decide)) rfl G_nearest_whole.m G_nearest_whole.kp G_nearest_whole.b .nil passL (pa_cons (pe_call G_share.ok (hr.mono (by decide)) rfl G_share.m G_share.kp G_share.b .nil passL (pa_cons (pe_call G_number_of.ok (hr.mono (by decide)) rfl G_number_of.m G_number_of.kp G_number_of.b .nil pass0 (pa_cons (pe_fldK (K := K) rfl (pv 0) rfl) (pa_cons (pv 2) pa_nil))) (pa_cons (pv 3) pa_nil))) pa_nil)))) pa_nil)))))), ?_⟩
    refine ⟨_, rfl, v, qs, rfl, hT, fun H1 s1 => ?_⟩
    obtain ⟨⟨sa, p, xs, ds, rfl, hS, hD, hl, hR⟩, n1, n5, ps⟩ := hT.same s1
    obtain ⟨da, ta, za, ha1, ha2, ha3⟩ := hP.same s1
    have hn := ha3.lenQ
    have dl := hD.len
    refine ⟨_, rfl, a, da, _, rfl, ha1, (by kernel_rfl), _, nums.map pq, rfl, ⟨da, ta, za, ha1, ha2, ha3⟩, ?_⟩
    refine ⟨_, rfl, sa, xs, rfl, sqB_to hS, _, _, rfl, rfl, _, rfl, ?_⟩
    rw [List.length_map, decide_eq_false (show ¬ ((xs.length : Nat) : Int) ≤ ((nums.length : Nat) : Int) - 1 by omega)]
    refine iteF ?_
    refine ⟨_, rfl, p, sa, xs, rfl, hS, fun D nD => ?_⟩
    refine lc_enumB (xs := xs) (fun i H' => Same H1 H' ∧ H' D = some (.lst (((tab i (wq nums qs)).map fun w => gNear w.num w.den).map V.int))) ⟨same_upd nD, upd_same⟩ (fun i H' h => hS.same h.1) ?_ ?_
    · rintro i x T H' hi ⟨ss, eD⟩ nT
      have sT : Same H' (upd H' T (HO.tup [V.int (i : Nat), x])) := same_upd nT
      have eT : upd H' T (HO.tup [V.int (i : Nat), x]) T = some (HO.tup [V.int (i : Nat), x]) := upd_same
      generalize upd H' T (HO.tup [V.int (i : Nat), x]) = H2 at sT eT ⊢
      obtain ⟨di, h1, h2⟩ := hD.at hi
      have hlt := (List.getElem?_eq_some_iff.mp hi).1
      have rt := hR i di h1
      have s12 := ss.trans sT
      refine ⟨T, _, rfl, SqT.of eT, rfl, _, _, rfl, _, _, rfl, rfl, rfl, ?_⟩
      refine ⟨_, rfl, a, CP, da, _, .ref ta, rfl, s12 _ _ ha1, PM.C.cl, PM.C.nf, (by kernel_rfl), _, rfl, ta, nums, i, rfl, ⟨za, .inr (SqT.of (s12 _ _ ha2)), ha3.same s12⟩, fun r H3 s3 tr => ?_⟩
      refine ⟨_, rfl, _, _, pairD (pq (cf nums i)), di, rfl, .tup (SqT.of tr) (.cons (.int _) (.cons (.int _) .nil)), (h2.mono s12).mono s3, fun t b t' b' e3 e4 => ?_, (fun z => by rw [parts_q] at z; cases z), (fun _ z => by obtain ⟨t, b, e5, _⟩ := rt.e; rw [e5] at z; cases z)⟩
      rw [parts_q] at e3
      cases e3
      obtain ⟨_, hqe, z1, z2, hb⟩ := rt.low e4
      have hp := rt_pos rt e4 (ps i (by omega))
      refine ⟨(hz i).1, (hz i).2, z1, z2, (fun z => absurd z (by omega)), fun _ r' H4 s4 er => ?_⟩
      have er : TR H4 r' (wq nums qs i) := by
        have z := share_low (c := cf nums i) hqe hb hp
        unfold gShare at er
        rw [z] at er
        exact er
      have eD' := s4 _ _ (s3 _ _ (sT _ _ eD))
      have wz := hw i (by omega)
      refine ⟨_, pairD (pq (wq nums qs i)), rfl, .tup (SqT.of er) (.cons (.int _) (.cons (.int _) .nil)), fun t b e5 => ?_, (fun z => by rw [parts_q] at z; cases z)⟩
      rw [parts_q] at e5
      cases e5
      refine ⟨wz.1, wz.2, fun H5 s5 => ?_⟩
      refine ⟨_, s5 _ _ eD', ?_, (fun b' o' e' => ?_), ?_⟩
      · rw [List.length_map, List.length_map, tab_len, sizeLine_eq]
        omega
      · rw [upd_ne (ne_of_none e' nD)]
        exact s5 _ _ (s4 _ _ (s3 _ _ (s12 _ _ e')))
      · rw [upd_same, tab_snoc, List.map_append, List.map_append]
        rfl
    · rintro H' ⟨ss, eD⟩
      rw [hl] at eD
      refine ⟨D, _, rfl, .inl ⟨SqL.of eD, fun l nl => ?_⟩⟩
      exact q l _ ((s1.trans ss).trans (same_upd nl)) upd_same
end

end Vf

set_option maxRecDepth 100000
set_option maxHeartbeats 8000000
namespace Vf
open PySem PySem.Spec PyProof.Rows L2
/-! ### the law's own grids -/
def rDiv (a b : Rat) : Rat := a / b
/-- one number over another one -/
def spLSh : Sp := fun vs H Q _ => ∃ (r1 r2 : Addr) (a b : Rat), vs = [.ref r1, .ref r2] ∧ TR H r1 a ∧ TR H r2 b ∧ Sr a ∧ Sr b ∧ b ≠ 0 ∧ ∀ (r : Addr) (H' : Hp), Same H H' → H r = none → TR H' r (a / b) → Q (.ref r) H'
theorem low_share {a b : Rat} (h : b ≠ 0) : low (a.num * b.den) ((a.den : Int) * b.num) = pq (a / b) ∧ (a.den : Int) * b.num ≠ 0 := by
  have hn : b.num ≠ 0 := fun z => h (Rat.num_eq_zero.mp z)
  have h0 : (a.den : Int) * b.num ≠ 0 := Int.mul_ne_zero (by have := a.den_nz; omega) hn
  refine ⟨low_mul h0 ?_, h0⟩
  have e1 : ((((a.den : Nat) : Int) * b.num : Int) : Rat) = ((a.den : Nat) : Rat) * (b.num : Rat) := by exact_mod_cast rfl
  have e2 : ((a.num * (b.den : Int) : Int) : Rat) = (a.num : Rat) * ((b.den : Nat) : Rat) := by exact_mod_cast rfl
  rw [e1, e2, ← num_den a, ← num_den b]
  have e3 : a / b * b = a := Rat.div_mul_cancel h
  calc a / b * (((a.den : Nat) : Rat) * (b * ((b.den : Nat) : Rat))) = (a / b * b) * ((a.den : Nat) : Rat) * ((b.den : Nat) : Rat) := by grind
    _ = a * ((a.den : Nat) : Rat) * ((b.den : Nat) : Rat) := by rw [e3]
theorem sr_prod {a b : Int} (ha : a.natAbs < 2 ^ 1900) (hb : b.natAbs < 2 ^ 1900) : (a * b).natAbs < 2 ^ 4000 := by
  rw [Int.natAbs_mul]
  have := Nat.mul_lt_mul'' ha hb
  rw [pow_add2] at this
  exact Nat.lt_trans this (Nat.pow_lt_pow_right (by decide) (by decide))
/-- the drawn steps -/
def st0 : Rat := ⟨1, 1, by decide, by decide⟩
def st1 : Rat := ⟨1, 2, by decide, by decide⟩
def st2 : Rat := ⟨1, 4, by decide, by decide⟩
def st3 : Rat := ⟨1, 3, by decide, by decide⟩
def st4 : Rat := ⟨2, 1, by decide, by decide⟩
def st5 : Rat := ⟨3, 8, by decide, by decide⟩
def G6 (q : Rat) : Prop := q = st0 ∨ q = st1 ∨ q = st2 ∨ q = st3 ∨ q = st4 ∨ q = st5
def spLGrid : Sp := fun vs H Q _ => ∃ (p lc : Addr) (B : Int), vs = [.ref p, .int 5] ∧ Pen H p lc B ∧ B ≤ 1000000 ∧
  ∀ (l : Addr) (qs : List Rat) (H' : Hp), Pen H' p lc (B + 10) → Kp p H H' → RL H' l qs → 1 ≤ qs.length → qs.length ≤ 5 → (∀ q ∈ qs, G6 q) → Q (.ref l) H'
def spLRP (K : PySem.W.Frag) : Sp := fun vs H Q _ => ∃ (t l : Addr) (ns : List Int) (qs : List Rat), vs = [.ref t, .ref l] ∧ SqT K H t (ns.map V.int) ∧ RL H l qs ∧ ns.length = qs.length ∧ qs.length ≤ 5 ∧ (∀ i, (ci ns i).natAbs < 2 ^ 1900) ∧ SrL qs ∧
  ∀ (r : Addr) (H' : Hp), Same H H' → RL H' r (stripQ (gq ns qs)) → Q (.ref r) H'
def spLNr : Sp := fun vs H Q _ => ∃ (r1 r2 : Addr) (a b : Rat), vs = [.ref r1, .ref r2] ∧ TR H r1 a ∧ TR H r2 b ∧ Sr a ∧ Sr b ∧ b ≠ 0 ∧ Z2 (a / b) ∧ ∀ H', Same H H' → Q (.int (gNear (a / b).num (a / b).den)) H'
section
variable {P : Program} {w : World} {K : PySem.W.Frag} {mg : Str → Option Value} {base : Heap} {CP CR CN : Addr}
abbrev sLShare : Stmt := topS 44
theorem scLShare : FnScope ["_law_one", "_law_two"] ["_law_one", "_law_two"] (defScope sLShare) := ⟨rfl, rfl, rfl, by decide +kernel, rfl, by decide +kernel, by decide +kernel⟩
theorem ok_lshare {f : Addr} {fd : FuncData} (F : Fun K "_law_share" "_law_share" sLShare f fd) (G__law_q : Df P w K mg base "_law_q" 2 ["_law_top", "_law_bottom"] spQ) : FnOk P w K mg base CX0 3 f fd ["_law_one", "_law_two"] spLSh := by
  refine F.ok scLShare (fun vs H Q E h => ?_) (fun cdv A outer s H vs Q E hr h => ?_)
  · obtain ⟨r1, r2, a, b, rfl, _⟩ := h
    rfl
  · obtain ⟨r1, r2, a, b, rfl, h1, h2, za, zb, b0, q⟩ := h
    refine ⟨_, (pss_one (ps_ret (pe_call G__law_q.ok (hr.mono (by decide)) rfl G__law_q.m G__law_q.kp G__law_q.b .nil pass0 (pa_cons (pe_op op_mulW (pe_ix ix_tup (pv 0) pe_int (fun _ _ => rfl)) (pe_ix ix_tup (pv 1) pe_int (fun _ _ => rfl))) (pa_cons (pe_op op_mulW (pe_ix ix_tup (pv 0) pe_int (fun _ _ => rfl)) (pe_ix ix_tup (pv 1) pe_int (fun _ _ => rfl))) pa_nil))))), ?_⟩
    obtain ⟨el, e0⟩ := low_share (a := a) b0
    refine ⟨_, rfl, r1, _, _, .int a.num, rfl, rfl, SqT.of h1, at_of (j := 0) rfl rfl, _, rfl, r2, _, _, .int b.den, rfl, rfl, SqT.of h2, at_of (j := 1) rfl rfl, _, _, rfl, rfl, big_mulW za.n zb.d, ?_⟩
    refine ⟨_, rfl, r1, _, _, .int a.den, rfl, rfl, SqT.of h1, at_of (j := 1) rfl rfl, _, rfl, r2, _, _, .int b.num, rfl, rfl, SqT.of h2, at_of (j := 0) rfl rfl, _, _, rfl, rfl, big_mulW za.d zb.n, ?_⟩
    refine ⟨_, _, rfl, e0, sr_prod za.1 (by rw [Int.natAbs_natCast]; exact zb.2), sr_prod (by rw [Int.natAbs_natCast]; exact za.2) zb.1, fun r H' ss nr er => ?_⟩
    rw [el] at er
    exact q r H' ss nr er
abbrev sLNear : Stmt := topS 50
theorem scLNear : FnScope ["_law_number", "_law_step", "_law_top", "_law_bottom"] ["_law_number", "_law_step"] (defScope sLNear) := ⟨rfl, rfl, rfl, by decide +kernel, rfl, by decide +kernel, by decide +kernel⟩
theorem ok_lnear {f : Addr} {fd : FuncData} (F : Fun K "_law_nearest" "_law_nearest" sLNear f fd) (G__law_share : Df P w K mg base "_law_share" 3 ["_law_one", "_law_two"] spLSh) : FnOk P w K mg base CX0 4 f fd ["_law_number", "_law_step"] spLNr := by
  refine F.ok scLNear (fun vs H Q E h => ?_) (fun cdv A outer s H vs Q E hr h => ?_)
  · obtain ⟨r1, r2, a, b, rfl, _⟩ := h
    rfl
  · obtain ⟨r1, r2, a, b, rfl, h1, h2, za, zb, b0, wz, q⟩ := h
    refine ⟨_, (pss_cons (ps_asg (pe_call G__law_share.ok (hr.mono (by decide)) rfl G__law_share.m G__law_share.kp G__law_share.b .nil pass0 (pa_cons (pv 0) (pa_cons (pv 1) pa_nil))) (pg_tup (by rfl) (pgs_cons (pg_name (i := 2) scLNear.nd rfl (Or.inl rfl)) (pgs_cons (pg_name (i := 3) scLNear.nd rfl (Or.inl rfl)) pgs_nil))))
  (pss_one (ps_ret (pe_op op_fdivZ (pe_op op_add (pe_op op_mulW pe_int (pv 2)) (pv 3)) (pe_op op_mulW pe_int (pv 3)))))), ?_⟩
    refine ⟨_, rfl, _, rfl, r1, r2, a, b, rfl, h1, h2, za, zb, b0, fun r H1 s1 nr er => ?_⟩
    have s2 : Sz 2 := by unfold Sz; decide +kernel
    have d0 := (a / b).den_pos
    refine ⟨r, _, rfl, SqT.of er, rfl, _, _, rfl, _, _, rfl, rfl, ?_⟩
    refine ⟨_, rfl, _, _, rfl, rfl, sz_mulW s2 wz.1, _, rfl, _, _, rfl, rfl, _, rfl, _, _, rfl, rfl, sz_mulW s2 wz.2, _, _, rfl, rfl, cdivW (by omega) (wide_lt s2 wz.2), ?_⟩
    exact q _ s1
abbrev sLRP : Stmt := topS 49
theorem scLRP : FnScope ["_law_row", "_law_steps", "_law_one", "_law_step"] ["_law_row", "_law_steps"] (defScope sLRP) := ⟨rfl, rfl, rfl, by decide +kernel, rfl, by decide +kernel, by decide +kernel⟩
theorem ok_lrp {f : Addr} {fd : FuncData} (F : Fun K "_law_row_poly" "_law_row_poly" sLRP f fd) (T : Bk mg) (hzip : mg "zip" = none) (G__law_poly : Df P w K mg base "_law_poly" 1 ["_law_numbers"] (spLPoly K)) (G__law_times : Df P w K mg base "_law_times" 3 ["_law_one", "_law_two"] (spL2 rMul)) : FnOk P w K mg base CX0 4 f fd ["_law_row", "_law_steps"] (spLRP K) := by
  refine F.ok scLRP (fun vs H Q E h => ?_) (fun cdv A outer s H vs Q E hr h => ?_)
  · obtain ⟨t, l, ns, qs, rfl, _⟩ := h
    rfl
  · obtain ⟨t, l, ns, qs, rfl, hS, ⟨as, el, ta⟩, hns, h5, hn, sq, q⟩ := h
    refine ⟨_, (pss_one (ps_ret (pe_call G__law_poly.ok (hr.mono (by decide)) rfl G__law_poly.m G__law_poly.kp G__law_poly.b .nil pass0 (pa_cons (pe_lc (own := [("_law_one", 2), ("_law_step", 3)]) (g := (gTup K 2 (gCons (gName 2) (gCons (gName 3) gNil)))) (tt := tYes) rfl scLRP.nd (pi_zipB (by rfl) hzip (pa_cons (pv 0) (pa_cons (pv 1) pa_nil))) (blkOk_by (N := ["_law_row", "_law_steps", "_law_one", "_law_step"]) (sc := defScope sLRP) (by decide +kernel)) (fun _ _ _ _ _ => pg_tup rfl (pgs_cons (pg_name (i := 2) scLRP.nd rfl (Or.inl rfl)) (pgs_cons (pg_name (i := 3) scLRP.nd rfl (Or.inl rfl)) pgs_nil))) (fun _ _ _ _ _ => pts_nil) (fun _ _ _ _ _ => (pe_call G__law_times.ok (hr.mono (by decide)) rfl G__law_times.m G__law_times.kp G__law_times.b .nil pass0 (pa_cons (pe_tup (pa_cons (pv 2) (pa_cons pe_int pa_nil))) (pa_cons (pv 3) pa_nil))))) pa_nil)))), ?_⟩
    have la := ta.lenQ
    refine ⟨_, rfl, _, rfl, false, true, t, l, _, as.map V.ref, rfl, hS, SqL.of el, fun D nD => ?_⟩
    refine lc_zipB (xs := ns.map V.int) (ys := as.map V.ref) (by rw [List.length_map, List.length_map]; omega) (fun i H' => Same H H' ∧ ∃ zs, H' D = some (.lst (zs.map V.ref)) ∧ Tups H' zs ((tab i fun i => ((ci ns i : Int) : Rat) * cf qs i).map pq)) ⟨same_upd nD, [], upd_same, .nil⟩ (fun i H' h => ⟨same_sqT h.1 hS, SqL.of (h.1 _ _ el)⟩) ?_ ?_
    · rintro i y x T H' hy hi ⟨ss, zs, eD, tz⟩ nT
      have ilt := (List.getElem?_eq_some_iff.mp hy).1
      rw [List.length_map] at ilt
      rw [ints_at ilt] at hy
      cases hy
      have sT : Same H' (upd H' T (HO.tup [V.int (ci ns i), x])) := same_upd nT
      have eT : upd H' T (HO.tup [V.int (ci ns i), x]) T = some (HO.tup [V.int (ci ns i), x]) := upd_same
      generalize upd H' T (HO.tup [V.int (ci ns i), x]) = H4 at sT eT ⊢
      rw [List.getElem?_map] at hi
      cases hr0 : as[i]? with
      | none => rw [hr0] at hi; cases hi
      | some r =>
        rw [hr0] at hi
        cases hi
        obtain ⟨qq, hq1, hq2⟩ := ta.atQ hr0
        have hc := cf_get hq1
        have s14 := ss.trans sT
        refine ⟨T, _, rfl, SqT.of eT, rfl, _, _, rfl, _, _, rfl, rfl, rfl, ?_⟩
        refine ⟨_, rfl, (by show 2 ≤ sizeLine; decide), fun t1 nt1 => ?_⟩
        have et1 : TR (upd H4 t1 (HO.tup [V.int (ci ns i), V.int 1])) t1 ((ci ns i : Int) : Rat) := by
          unfold TR
          rw [upd_same, Rat.num_intCast, Rat.den_intCast]
          rfl
        have s5 : Same H4 (upd H4 t1 (HO.tup [V.int (ci ns i), V.int 1])) := same_upd nt1
        try dsimp only [] at nt1 ⊢
        generalize upd H4 t1 (HO.tup [V.int (ci ns i), V.int 1]) = H5 at et1 s5 ⊢
        have sri : Sr ((ci ns i : Int) : Rat) := ⟨by rw [Rat.num_intCast]; exact hn i, by rw [Rat.den_intCast]; exact Nat.one_lt_pow (by decide) (by decide)⟩
        refine ⟨_, rfl, t1, r, _, cf qs i, rfl, et1, by rw [hc]; exact s5 _ _ (s14 _ _ hq2), sri, sq i, fun r' H6 s6 nr er => ?_⟩
        have eD' := s6 _ _ (s5 _ _ (sT _ _ eD))
        refine ⟨_, eD', ?_, (fun b' o' e' => ?_), zs ++ [r'], ?_, ?_⟩
        · have := tz.lenQ
          rw [tab_len] at this
          rw [List.length_map, sizeLine_eq]
          omega
        · rw [upd_ne (ne_of_none e' nD)]
          exact s6 _ _ (s5 _ _ (s14 _ _ e'))
        · rw [upd_same, List.map_append]
          rfl
        · rw [tab_snoc]
          have up : ∀ (c : Addr) (p : Int × Int), H6 c = some (.tup [.int p.1, .int p.2]) → upd H6 D (.lst (zs.map V.ref ++ [V.ref r'])) c = some (.tup [.int p.1, .int p.2]) := fun c p z => by
            rw [upd_ne (ne_of z eD' (by intro z; cases z))]
            exact z
          exact Tups.snocQ ((((tz.same sT).same s5).same s6).imp up) (up _ (pq _) er)
    · rintro H' ⟨ss, zs, eD, tz⟩
      rw [List.length_map, hns] at tz
      exact lpoly_q (E := E0) ⟨zs, eD, tz⟩ (by rw [tab_len]; omega) fun l' H2 s2 rl => q l' H2 (ss.trans s2) rl
abbrev sLGrid : Stmt := topS 48
theorem scLGrid : FnScope ["_law_pen_here", "_law_most", "_law_k"] ["_law_pen_here", "_law_most"] (defScope sLGrid) := ⟨rfl, rfl, rfl, by decide +kernel, rfl, by decide +kernel, by decide +kernel⟩
theorem ok_lgrid {f : Addr} {fd : FuncData} (F : Fun K "_law_grid" "_law_grid" sLGrid f fd) (T : Bk mg) (G__law_draw : Df P w K mg base "_law_draw" 1 ["_law_pen_here", "_law_many"] spDraw) (G__law_pick : Df P w K mg base "_law_pick" 2 ["_law_pen_here", "_law_some"] spPick) : FnOk P w K mg base CX0 4 f fd ["_law_pen_here", "_law_most"] spLGrid := by
  refine F.ok scLGrid (fun vs H Q E h => ?_) (fun cdv A outer s H vs Q E hr h => ?_)
  · obtain ⟨p, lc, B, rfl, _⟩ := h
    rfl
  · obtain ⟨p, lc, B, rfl, hP, hB, q⟩ := h
    refine ⟨_, (pss_one (ps_ret (pe_lc (own := [("_law_k", 2)]) (g := (gName 2)) (tt := tYes) rfl scLGrid.nd (pi_range1 (by rfl) T.range (pa_cons (pe_op op_add pe_int (pe_call G__law_draw.ok (hr.mono (by decide)) rfl G__law_draw.m G__law_draw.kp G__law_draw.b .nil pass0 (pa_cons (pv 0) (pa_cons (pv 1) pa_nil)))) pa_nil)) (blkOk_by (N := ["_law_pen_here", "_law_most", "_law_k"]) (sc := defScope sLGrid) (by decide +kernel)) (fun _ _ _ _ _ => pg_name (i := 2) scLGrid.nd rfl (Or.inl rfl)) (fun _ _ _ _ _ => pts_nil) (fun _ _ _ _ _ => (pe_call G__law_pick.ok (hr.mono (by decide)) rfl G__law_pick.m G__law_pick.kp G__law_pick.b .nil pass0 (pa_cons (pv 0) (pa_cons (pe_lst (pa_cons (pe_tup (pa_cons pe_int (pa_cons pe_int pa_nil))) (pa_cons (pe_tup (pa_cons pe_int (pa_cons pe_int pa_nil))) (pa_cons (pe_tup (pa_cons pe_int (pa_cons pe_int pa_nil))) (pa_cons (pe_tup (pa_cons pe_int (pa_cons pe_int pa_nil))) (pa_cons (pe_tup (pa_cons pe_int (pa_cons pe_int pa_nil))) (pa_cons (pe_tup (pa_cons pe_int (pa_cons pe_int pa_nil))) pa_nil))))))) pa_nil))))))), ?_⟩
    refine ⟨_, rfl, _, rfl, p, lc, B, _, rfl, hP, by omega, by omega, by omega, fun z H1 z0 z1 hP1 k1 => ⟨_, _, rfl, rfl, ?_⟩⟩
    refine ⟨_, rfl, by omega, by omega, fun D hD => lc_range (lo := 0) (n := (1 + z).toNat) (fun i H' => Kp p H1 H' ∧ Pen H' p lc (B + 1 + i) ∧ ∃ (zs : List Addr) (qs : List Rat), H' D = some (.lst (zs.map V.ref)) ∧ Tups H' zs (qs.map pq) ∧ qs.length = i ∧ ∀ q ∈ qs, G6 q) ?_ ?_ ?_⟩
    · exact ⟨Kp.of (same_upd hD), (hP1.same (same_upd hD)).more (by omega), [], [], upd_same, .nil, rfl, fun q hq => nomatch hq⟩
    · rintro i H' hi ⟨kk, hP', zs, qs, eD, tz, lq, sq⟩
      obtain ⟨d1, d2⟩ := hP1.ne_new hD
      refine ⟨rfl, ?_⟩
      refine ⟨_, rfl, (by show 2 ≤ sizeLine; decide), fun t0 nt0 => ?_⟩
      have et0 : TR (upd H' t0 (HO.tup [V.int 1, V.int 1])) t0 st0 := upd_same
      have s0 : Same H' (upd H' t0 (HO.tup [V.int 1, V.int 1])) := same_upd nt0
      try dsimp only [] at nt0 ⊢
      generalize upd H' t0 (HO.tup [V.int 1, V.int 1]) = Ha0 at et0 s0 ⊢
      refine ⟨(by show 2 ≤ sizeLine; decide), fun t1 nt1 => ?_⟩
      have et1 : TR (upd Ha0 t1 (HO.tup [V.int 1, V.int 2])) t1 st1 := upd_same
      have s1 : Same Ha0 (upd Ha0 t1 (HO.tup [V.int 1, V.int 2])) := same_upd nt1
      try dsimp only [] at nt1 ⊢
      generalize upd Ha0 t1 (HO.tup [V.int 1, V.int 2]) = Ha1 at et1 s1 ⊢
      refine ⟨(by show 2 ≤ sizeLine; decide), fun t2 nt2 => ?_⟩
      have et2 : TR (upd Ha1 t2 (HO.tup [V.int 1, V.int 4])) t2 st2 := upd_same
      have s2 : Same Ha1 (upd Ha1 t2 (HO.tup [V.int 1, V.int 4])) := same_upd nt2
      try dsimp only [] at nt2 ⊢
      generalize upd Ha1 t2 (HO.tup [V.int 1, V.int 4]) = Ha2 at et2 s2 ⊢
      refine ⟨(by show 2 ≤ sizeLine; decide), fun t3 nt3 => ?_⟩
      have et3 : TR (upd Ha2 t3 (HO.tup [V.int 1, V.int 3])) t3 st3 := upd_same
      have s3 : Same Ha2 (upd Ha2 t3 (HO.tup [V.int 1, V.int 3])) := same_upd nt3
      try dsimp only [] at nt3 ⊢
      generalize upd Ha2 t3 (HO.tup [V.int 1, V.int 3]) = Ha3 at et3 s3 ⊢
      refine ⟨(by show 2 ≤ sizeLine; decide), fun t4 nt4 => ?_⟩
      have et4 : TR (upd Ha3 t4 (HO.tup [V.int 2, V.int 1])) t4 st4 := upd_same
      have s4 : Same Ha3 (upd Ha3 t4 (HO.tup [V.int 2, V.int 1])) := same_upd nt4
      try dsimp only [] at nt4 ⊢
      generalize upd Ha3 t4 (HO.tup [V.int 2, V.int 1]) = Ha4 at et4 s4 ⊢
      refine ⟨(by show 2 ≤ sizeLine; decide), fun t5 nt5 => ?_⟩
      have et5 : TR (upd Ha4 t5 (HO.tup [V.int 3, V.int 8])) t5 st5 := upd_same
      have s5 : Same Ha4 (upd Ha4 t5 (HO.tup [V.int 3, V.int 8])) := same_upd nt5
      try dsimp only [] at nt5 ⊢
      generalize upd Ha4 t5 (HO.tup [V.int 3, V.int 8]) = Ha5 at et5 s5 ⊢
      refine ⟨(by show 6 ≤ sizeLine; decide), fun lk nlk => ?_⟩
      have elk : upd Ha5 lk (HO.lst [V.ref t0, V.ref t1, V.ref t2, V.ref t3, V.ref t4, V.ref t5]) lk = some (HO.lst [V.ref t0, V.ref t1, V.ref t2, V.ref t3, V.ref t4, V.ref t5]) := upd_same
      have s6 : Same Ha5 (upd Ha5 lk (HO.lst [V.ref t0, V.ref t1, V.ref t2, V.ref t3, V.ref t4, V.ref t5])) := same_upd nlk
      try dsimp only [tNil, List.append_nil] at nlk ⊢
      generalize upd Ha5 lk (HO.lst [V.ref t0, V.ref t1, V.ref t2, V.ref t3, V.ref t4, V.ref t5]) = Hb at elk s6 ⊢
      have sA : Same H' Ha5 := s0.trans (s1.trans (s2.trans (s3.trans (s4.trans s5))))
      have hPb := hP'.same (sA.trans s6)
      have lkp := ((hP'.same sA).ne_new nlk).1
      refine ⟨p, lc, lk, _, _, rfl, hPb, by omega, elk, lkp, (by show 0 < 6; decide), (by show 6 < 1000000; decide), fun x Hc hx hPc kc => ?_⟩
      obtain ⟨r, gq, rfl, er, hg⟩ : ∃ r gq, x = V.ref r ∧ TR Hb r gq ∧ G6 gq := by
        simp only [List.mem_cons, List.not_mem_nil, or_false] at hx
        rcases hx with h | h | h | h | h | h
        · exact ⟨t0, st0, h, ((((( et0.same s1).same s2).same s3).same s4).same s5).same s6, .inl rfl⟩
        · exact ⟨t1, st1, h, (((( et1.same s2).same s3).same s4).same s5).same s6, .inr (.inl rfl)⟩
        · exact ⟨t2, st2, h, ((( et2.same s3).same s4).same s5).same s6, .inr (.inr (.inl rfl))⟩
        · exact ⟨t3, st3, h, (( et3.same s4).same s5).same s6, .inr (.inr (.inr (.inl rfl)))⟩
        · exact ⟨t4, st4, h, ( et4.same s5).same s6, .inr (.inr (.inr (.inr (.inl rfl))))⟩
        · exact ⟨t5, st5, h, et5.same s6, .inr (.inr (.inr (.inr (.inr rfl))))⟩
      have er := er.kp hPb kc
      have kb : Kp p H' Hc := (Kp.of (sA.trans s6)).trans kc
      have eD' := kb _ _ d1 eD
      refine ⟨_, eD', ?_, ?_, (hPc.put upd_away d1 d2).more (by omega), zs ++ [r], qs ++ [gq], ?_, ?_, by rw [List.length_append, lq]; rfl, fun y hy => ?_⟩
      · have := tz.lenQ
        rw [List.length_map, sizeLine_eq]
        omega
      · exact fun b o nb eb => by
          rw [upd_ne (ne_of_none eb hD)]
          exact kb b o nb (kk b o nb eb)
      · rw [upd_same, List.map_append]
        rfl
      · have up : ∀ (c : Addr) (p : Int × Int), Hc c = some (.tup [.int p.1, .int p.2]) → upd Hc D (.lst (zs.map V.ref ++ [V.ref r])) c = some (.tup [.int p.1, .int p.2]) := fun c p z => by
          rw [upd_ne (ne_of z eD' (by intro z; cases z))]
          exact z
        exact Tups.snocQ ((tz.kp hP' kb).imp up) (up r (pq gq) er)
      · rcases List.mem_append.mp hy with h | h
        · exact sq y h
        · rw [List.mem_singleton.mp h]
          exact hg
    · rintro H' ⟨kk, hP', zs, qs, eD, tz, lq, sq⟩
      exact q D qs H' (hP'.more (by omega)) (k1.trans kk) ⟨zs, eD, tz⟩ (by omega) (by omega) sq
end

end Vf

set_option maxRecDepth 100000
set_option maxHeartbeats 16000000
namespace Vf
open PySem PySem.Spec PyProof.Rows L2
abbrev sLaw : Stmt := topS 51
def nLaw : List Str := ["_law_script", "_law_pen_here", "_law_steps", "_law_passed_here", "_law_step", "_law_lap", "_law_row", "_law_own", "_law_told", "_law_k", "_law_part", "_law_bent", "_law_made", "_law_one", "_law_high"]
def spLaw0 (K : PySem.W.Frag) : Sp := fun vs H Q _ => ∃ (a : Addr) (ns : List Int), vs = [.ref a] ∧ SqL K H a (ns.map V.int) ∧ ns.length ≤ 63 ∧ ∀ H', Q (.bl true) H'
theorem g6_pos {q : Rat} (h : G6 q) : 0 < q := by
  rcases h with h | h | h | h | h | h <;> rw [h] <;> (rw [Rat.lt_iff]; decide)
theorem g6_sm {q : Rat} (h : G6 q) : q.num.natAbs ≤ 3 ∧ q.den ≤ 8 := by
  rcases h with h | h | h | h | h | h <;> rw [h] <;> decide
theorem eqv_ints (ns : List Int) : PyData.eqv (.tuple (ns.map PyData.int)) (.tuple (ns.map PyData.int)) = true ∧ (PyData.tuple (ns.map PyData.int)).plain = true ∧ (PyData.tuple (ns.map PyData.int)).depth ≤ 60 := by
  have pl : (PyData.tuple (ns.map PyData.int)).plain = true := by
    simp only [PyData.plain]
    induction ns with
    | nil => rfl
    | cons n r ih => simp only [List.map_cons, PyData.plainAll, PyData.plain, ih, Bool.and_self]
  refine ⟨SeqAt.eqv_refl_plain _ pl, pl, ?_⟩
  have : PyData.depthAll (ns.map PyData.int) ≤ 0 := depthAll_of fun d hd => by
    obtain ⟨n, _, rfl⟩ := List.mem_map.mp hd
    simp [PyData.depth]
  simp only [PyData.depth]
  omega
theorem gq_len (ns : List Int) (qs : List Rat) : (gq ns qs).length = qs.length := tab_len _ _
theorem cf_gq (ns : List Int) (qs : List Rat) {i : Nat} (h : i < qs.length) : cf (gq ns qs) i = ((ci ns i : Int) : Rat) * cf qs i := by
  unfold gq
  rw [cf_tab, if_pos h]
theorem cf_gq0 (ns : List Int) (qs : List Rat) {i : Nat} (h : qs.length ≤ i) : cf (gq ns qs) i = 0 := cf_ge (by rw [gq_len]; exact h)
theorem wq_gq {ns : List Int} {qs : List Rat} {i : Nat} (h : i < qs.length) (hp : cf qs i ≠ 0) : wq (stripQ (gq ns qs)) qs i = ((ci ns i : Int) : Rat) := by
  unfold wq
  rw [cf_stripQ, cf_gq ns qs h, Rat.mul_div_cancel hp]
theorem tab_ints {ns : List Int} {n : Nat} (hl : ns.length = n) {f : Nat → Rat} {g : Rat → Int} (h : ∀ i, i < n → g (f i) = ci ns i) : (tab n f).map g = ns := by
  refine List.ext_getElem? fun i => ?_
  rw [List.getElem?_map]
  by_cases hi : i < n
  · have e1 : (tab n f)[i]? = some (f i) := by
      unfold tab
      rw [List.getElem?_map, List.getElem?_range hi]
      rfl
    rw [e1, ci_lt (by omega)]
    show some (g (f i)) = _
    rw [h i hi]
  · rw [List.getElem?_eq_none_iff.mpr (by rw [tab_len]; omega), List.getElem?_eq_none_iff.mpr (by omega)]
    rfl
/-- the numbers of a whole row -/
theorem onG_gq {ns : List Int} {qs : List Rat} (hl : ns.length = qs.length) (hp : ∀ i, i < qs.length → 0 < cf qs i) : onG (stripQ (gq ns qs)) qs = some ns ∧ nr (stripQ (gq ns qs)) qs = ns ∧ (stripQ (gq ns qs)).length ≤ qs.length := by
  have h0 : (stripQ (gq ns qs)).length ≤ qs.length := by have := stripQ_len (gq ns qs); rw [gq_len] at this; exact this
  have w : ∀ i, i < qs.length → wq (stripQ (gq ns qs)) qs i = ((ci ns i : Int) : Rat) := fun i hi => wq_gq hi (fun z => by have := hp i hi; rw [z] at this; exact absurd this (by decide))
  refine ⟨?_, ?_, h0⟩
  · unfold onG
    rw [if_neg (by omega), if_pos (fun i hi => by rw [w i hi, Rat.den_intCast])]
    congr 1
    exact tab_ints hl fun i hi => by rw [w i hi, Rat.num_intCast]
  · unfold nr
    refine tab_ints hl fun i hi => ?_
    rw [w i hi, Rat.num_intCast, Rat.den_intCast]
    show (2 * ci ns i + 1).fdiv (2 * 1) = _
    rw [Int.fdiv_eq_ediv_of_nonneg _ (by decide)]
    omega
/-- what the law puts beside a row -/
def pa0 : Rat := ⟨1, 2, by decide, by decide⟩
def pa1 : Rat := ⟨-1, 2, by decide, by decide⟩
def pa2 : Rat := ⟨1, 3, by decide, by decide⟩
def pa3 : Rat := ⟨-2, 3, by decide, by decide⟩
def pa4 : Rat := ⟨1, 1000000000, by decide, by decide⟩
def pa5 : Rat := ⟨499, 1000, by decide, by decide⟩
def P6 (q : Rat) : Prop := q = pa0 ∨ q = pa1 ∨ q = pa2 ∨ q = pa3 ∨ q = pa4 ∨ q = pa5
theorem p6_sm {q : Rat} (h : P6 q) : q.num.natAbs ≤ 499 ∧ q.den ≤ 1000000000 ∧ 2 ≤ q.den := by
  rcases h with h | h | h | h | h | h <;> rw [h] <;> decide
theorem Fr.pos {M N : Nat} {a : Rat} (hM : 0 < M) (h : Fr M N a) (h1 : M < 2 ^ 80) (h2 : N < 2 ^ 80) : RatOk (pq a) := by
  obtain ⟨s1, s2⟩ := h.size hM
  refine ⟨pq_low a, Nat.lt_of_le_of_lt s1 h2, ?_⟩
  show ((_ : Nat) : Int).natAbs < 2 ^ 80
  rw [Int.natAbs_natCast]
  exact Nat.lt_of_le_of_lt s2 h1
theorem small_fr {M N : Nat} {q : Rat} (hM : 0 < M) (h : Fr M N q) (h1 : M < 2 ^ 70) (h2 : N < 2 ^ 70) : RatOk (pq q) ∧ Z2 q ∧ Sr q := by
  obtain ⟨s1, s2⟩ := h.size hM
  have z1 : q.num.natAbs < 2 ^ 70 := Nat.lt_of_le_of_lt s1 h2
  have z2 : ((q.den : Nat) : Int).natAbs < 2 ^ 70 := by rw [Int.natAbs_natCast]; exact Nat.lt_of_le_of_lt s2 h1
  have up : ∀ {k : Nat}, 70 < k → (2 : Nat) ^ 70 < 2 ^ k := fun h => Nat.pow_lt_pow_right (by decide) h
  refine ⟨⟨pq_low q, Nat.lt_trans z1 (up (by decide)), Nat.lt_trans z2 (up (by decide))⟩, ⟨Nat.lt_trans z1 (up (by decide)), Nat.lt_trans z2 (up (by decide))⟩, Nat.lt_trans z1 (up (by decide)), ?_⟩
  rw [Int.natAbs_natCast] at z2
  exact Nat.lt_trans z2 (up (by decide))
/-- a whole number and, at one place, a part -/
def wv (ms : List Int) (k : Nat) (part : Rat) (j : Nat) : Rat := ((ci ms j : Int) : Rat) + if j = k then part else 0
theorem fr_wv {ms : List Int} {k : Nat} {part : Rat} (hm : ∀ j, (ci ms j).natAbs ≤ 10) (hp : P6 part) (j : Nat) : Fr part.den (10 * part.den + 499) (wv ms k part j) := by
  have h1 : Fr part.den (10 * part.den) ((ci ms j : Int) : Rat) := by
    have h := (Fr.self ((ci ms j : Int) : Rat)).scale part.den
    rw [Rat.num_intCast, Rat.den_intCast, Nat.one_mul] at h
    exact h.le (Nat.mul_le_mul_right _ (hm j))
  unfold wv
  by_cases e : j = k
  · rw [if_pos e]
    exact h1.add ((Fr.self part).le (p6_sm hp).1)
  · rw [if_neg e]
    exact h1.add (Fr.zero _ _)
theorem wv_part {ms : List Int} {k : Nat} {part : Rat} (hp : P6 part) : (wv ms k part k).den ≠ 1 := fun h => by
  have e : wv ms k part k = ((ci ms k : Int) : Rat) + part := by unfold wv; rw [if_pos rfl]
  have n := num_den (wv ms k part k)
  rw [h] at n
  have n1 : wv ms k part k = (((wv ms k part k).num : Int) : Rat) := by
    have : wv ms k part k * ((1 : Nat) : Rat) = wv ms k part k := by rw [show ((1 : Nat) : Rat) = 1 from rfl, Rat.mul_one]
    rw [this] at n
    exact n
  have n2 : part = (((wv ms k part k).num - ci ms k : Int) : Rat) := by
    rw [Rat.intCast_sub, ← n1, e]
    grind
  have d : part.den = 1 := by
    rw [n2]
    exact Rat.den_intCast _
  have := (p6_sm hp).2.2
  omega
/-- one power more than a grid has -/
def hiQ (n : Nat) : List Rat := List.replicate n 0 ++ [1]
def hiD (n : Nat) : List PyData := List.replicate n (.int 0) ++ [.int 1]
theorem hi_row : ∀ n : Nat, (hiD n).mapM partsD = some (List.replicate n (0, 1) ++ [(1, 1)])
  | 0 => rfl
  | n + 1 => by
    have e : hiD (n + 1) = .int 0 :: hiD n := rfl
    rw [e, List.mapM_cons, hi_row n]
    rfl
theorem hi_strip (n : Nat) : strip ((List.replicate n ((0 : Int), (1 : Int)) ++ [(1, 1)]).map lowP) = (hiQ n).map pq := by
  have l0 : lowP (0, 1) = (0, 1) := by decide +kernel
  have l1 : lowP (1, 1) = (1, 1) := by decide +kernel
  have e : (List.replicate n ((0 : Int), (1 : Int)) ++ [(1, 1)]).map lowP = List.replicate n (0, 1) ++ [(1, 1)] := by
    rw [List.map_append, List.map_replicate, List.map_cons, List.map_nil, l0, l1]
  rw [e, strip_snoc, if_neg (by decide)]
  unfold hiQ
  rw [List.map_append, List.map_replicate]
  rfl
theorem hi_len (n : Nat) : (hiQ n).length = n + 1 := by
  unfold hiQ
  rw [List.length_append, List.length_replicate]
  rfl
theorem hi_z2 (n j : Nat) : Z2 (cf (hiQ n) j) := by
  unfold hiQ
  rw [cf_app]
  split
  · rw [cf_rep0]
    exact z2_zero
  · by_cases h : j - (List.replicate n (0 : Rat)).length = 0
    · rw [h]
      exact ⟨by show (1 : Nat) < 2 ^ 200; decide +kernel, by show (1 : Nat) < 2 ^ 200; decide +kernel⟩
    · rw [cf_ge (show ([1] : List Rat).length ≤ j - (List.replicate n (0 : Rat)).length by show 1 ≤ _; omega)]
      exact z2_zero
theorem onG_nil (qs : List Rat) : onG [] qs = some (List.replicate qs.length 0) := by
  have w : ∀ i, wq [] qs i = 0 := fun i => by
    unfold wq
    rw [cf_nil, Rat.div_def, Rat.zero_mul]
  unfold onG
  rw [if_neg (by show ¬ qs.length < 0; omega), if_pos (fun i _ => by rw [w]; rfl)]
  congr 1
  have e : tab qs.length (wq [] qs) = List.replicate qs.length 0 := by
    unfold tab
    refine List.eq_replicate_iff.mpr ⟨by rw [List.length_map, List.length_range], fun b hb => ?_⟩
    obtain ⟨i, _, rfl⟩ := List.mem_map.mp hb
    exact w i
  rw [e, List.map_replicate]
  rfl
theorem dts_hi {K : PySem.W.Frag} {H : Hp} : ∀ n : Nat, Dts K H (List.replicate n (V.int 0) ++ [V.int 1]) (hiD n)
  | 0 => .cons (.int 1) .nil
  | n + 1 => .cons (.int 0) (dts_hi n)
theorem flat_rep1 (n : Nat) (v : V) : (List.replicate n [v]).flatten = List.replicate n v := List.flatten_replicate_singleton

section
variable {P : Program} {w : World} {K : PySem.W.Frag} {mg : Str → Option Value} {base : Heap} {CP CR : Addr}
theorem scLaw : FnScope nLaw ["_law_script"] (defScope sLaw) := ⟨rfl, rfl, rfl, by decide +kernel, rfl, by decide +kernel, by decide +kernel⟩
theorem ok_law {f : Addr} {fd : FuncData} (F : Fun K "law" "law" sLaw f fd) (T : Bk mg) (hm1 : M1 base) (hzip : mg "zip" = none) (PM : PoM P w K mg base CP CR)
    (G__law_pen : Df P w K mg base "_law_pen" 1 ["_law_script"] (spPen K))
    (G__law_draw : Df P w K mg base "_law_draw" 1 ["_law_pen_here", "_law_many"] spDraw)
    (G__law_pick : Df P w K mg base "_law_pick" 2 ["_law_pen_here", "_law_some"] spPick)
    (G__law_passed : Df P w K mg base "_law_passed" 3 ["_law_pen_here", "_law_ratio"] (spPassed K))
    (G__law_poly : Df P w K mg base "_law_poly" 1 ["_law_numbers"] (spLPoly K))
    (G__law_made_poly : Df P w K mg base "_law_made_poly" 7 ["_law_pen_here", "_law_one"] (spMade K CP))
    (G__law_plus : Df P w K mg base "_law_plus" 3 ["_law_one", "_law_two"] (spL2 rAdd))
    (G__law_times : Df P w K mg base "_law_times" 3 ["_law_one", "_law_two"] (spL2 rMul))
    (G__law_grid : Df P w K mg base "_law_grid" 4 ["_law_pen_here", "_law_most"] spLGrid)
    (G__law_row_poly : Df P w K mg base "_law_row_poly" 4 ["_law_row", "_law_steps"] (spLRP K))
    (G__law_nearest : Df P w K mg base "_law_nearest" 4 ["_law_number", "_law_step"] spLNr)
    (G_grid_poly : Df P w K mg base "grid_poly" 7 ["row", "steps"] (spGP K CP))
    (G_on_grid : Df P w K mg base "on_grid" 7 ["poly", "steps"] (spOnG K CP))
    (G_nearest_row : Df P w K mg base "nearest_row" 7 ["poly", "steps"] (spNR K CP)) : FnG P w K mg base CX0 9 f fd ["_law_script"] (spLaw0 K) := by
  refine fnG_of0 F scLaw (fun vs H Q E h => ?_) (fun cdv A outer s H0 vs Q E hgu hr hcd h => ?_)
  · obtain ⟨a, ns, rfl, _⟩ := h
    rfl
  · obtain ⟨sc, ns, rfl, hS, hns, kend⟩ := h
    have hu64 := hr.units
    refine ⟨_, (pss_cons (ps_set (i := 1) scLaw.nd rfl (Or.inr rfl) (pe_call G__law_pen.ok (hr.mono (by decide)) rfl G__law_pen.m G__law_pen.kp G__law_pen.b .nil pass0 (pa_cons (pv 0) pa_nil)))
  (pss_cons (ps_set (i := 2) scLaw.nd rfl (Or.inl rfl) (pe_call G__law_grid.ok (hr.mono (by decide)) rfl G__law_grid.m G__law_grid.kp G__law_grid.b .nil pass0 (pa_cons (pv 1) (pa_cons pe_int pa_nil))))
  (pss_cons (ps_setLc (i := 3) (own := [("_law_step", 4)]) (g := (gName 4)) (tt := tYes) rfl scLaw.nd rfl rfl (sw_true rfl rfl rfl (by decide +kernel)) (pi_seq (pv 2)) (blkOk_by (N := ["_law_script", "_law_pen_here", "_law_steps", "_law_passed_here", "_law_step", "_law_lap", "_law_row", "_law_own", "_law_told", "_law_k", "_law_part", "_law_bent", "_law_made", "_law_one", "_law_high"]) (sc := defScope sLaw) (by decide +kernel)) (fun _ _ _ _ _ => pg_name (i := 4) scLaw.nd rfl (Or.inl rfl)) (fun _ _ _ _ _ => pts_nil) (fun _ _ _ _ _ => (pe_call G__law_passed.ok (hr.mono (by decide)) rfl G__law_passed.m G__law_passed.kp G__law_passed.b .nil pass0 (pa_cons (pv 1) (pa_cons (pv 4) pa_nil)))))
  (pss_cons (ps_set (i := 3) scLaw.nd rfl (Or.inl rfl) (pe_call G__law_pick.ok (hr.mono (by decide)) rfl G__law_pick.m G__law_pick.kp G__law_pick.b .nil pass0 (pa_cons (pv 1) (pa_cons (pe_lst (pa_cons (pv 3) (pa_cons (pe_callTy call_tuple_of (by rfl) T.tuple (by decide +kernel) (pa_cons (pv 3) pa_nil)) pa_nil))) pa_nil))))
  (pss_cons (ps_for PassesOwn.never rfl (pi_range1 (by rfl) T.range (pa_cons pe_int pa_nil)) (pg_name (i := 5) scLaw.nd rfl (Or.inl rfl))
    (pss_cons (ps_set (i := 6) scLaw.nd rfl (Or.inl rfl) (pe_callTy call_tuple_of (by rfl) T.tuple (by decide +kernel) (pa_cons (pe_lc (own := [("_law_step", 4)]) (g := (gName 4)) (tt := tYes) rfl scLaw.nd (pi_seq (pv 2)) (blkOk_by (N := ["_law_script", "_law_pen_here", "_law_steps", "_law_passed_here", "_law_step", "_law_lap", "_law_row", "_law_own", "_law_told", "_law_k", "_law_part", "_law_bent", "_law_made", "_law_one", "_law_high"]) (sc := defScope sLaw) (by decide +kernel)) (fun _ _ _ _ _ => pg_name (i := 4) scLaw.nd rfl (Or.inl rfl)) (fun _ _ _ _ _ => pts_nil) (fun _ _ _ _ _ => (pe_ifExp (pt_cmpR op_gt (pe_call G__law_draw.ok (hr.mono (by decide)) rfl G__law_draw.m G__law_draw.kp G__law_draw.b .nil pass0 (pa_cons (pv 1) (pa_cons pe_int pa_nil))) pe_int (nomark _)) (pe_op op_sub (pe_call G__law_draw.ok (hr.mono (by decide)) rfl G__law_draw.m G__law_draw.kp G__law_draw.b .nil pass0 (pa_cons (pv 1) (pa_cons pe_int pa_nil))) pe_int) pe_int))) pa_nil)))
    (pss_cons (ps_set (i := 7) scLaw.nd rfl (Or.inl rfl) (pe_call G__law_row_poly.ok (hr.mono (by decide)) rfl G__law_row_poly.m G__law_row_poly.kp G__law_row_poly.b .nil pass0 (pa_cons (pv 6) (pa_cons (pv 2) pa_nil))))
    (pss_cons (ps_set (i := 8) scLaw.nd rfl (Or.inl rfl) (pe_call G_grid_poly.ok (hr.mono (by decide)) rfl G_grid_poly.m G_grid_poly.kp G_grid_poly.b .nil pass0 (pa_cons (pe_call G__law_pick.ok (hr.mono (by decide)) rfl G__law_pick.m G__law_pick.kp G__law_pick.b .nil pass0 (pa_cons (pv 1) (pa_cons (pe_lst (pa_cons (pv 6) (pa_cons (pe_callTy call_list_of (by rfl) T.list (by decide +kernel) (pa_cons (pv 6) pa_nil)) pa_nil))) pa_nil))) (pa_cons (pv 3) pa_nil))))
    (pss_cons (ps_if (PW.pt (pw_or (pt_not (pt_val (pe_callB call_isi (by rfl) T.isinstance (by decide +kernel) (pa_cons (pv 8) (pa_cons (pe_glob (v := V.ref CP) rfl PM.C.m rfl) pa_nil))))) (pw_or (pt_cmpR (op_neT hu64 hm1) (pe_callTy call_list_of (by rfl) T.list (by decide +kernel) (pa_cons (pe_fld (pv 8) rfl) pa_nil)) (pv 7) (nomark _)) (pw_or1 (pt_cmpR (op_neT hu64 hm1) (pe_call G_on_grid.ok (hr.mono (by decide)) rfl G_on_grid.m G_on_grid.kp G_on_grid.b .nil pass0 (pa_cons (pv 8) (pa_cons (pv 3) pa_nil))) (pv 6) (nomark _))))))
      (pss_one (ps_ret pe_bl))
      pss_nil)
    (pss_cons (ps_if (pt_cmpR (op_neT hu64 hm1) (pe_call G_nearest_row.ok (hr.mono (by decide)) rfl G_nearest_row.m G_nearest_row.kp G_nearest_row.b .nil pass0 (pa_cons (pv 8) (pa_cons (pv 3) pa_nil))) (pv 6) (nomark _))
      (pss_one (ps_ret pe_bl))
      pss_nil)
    (pss_cons (ps_set (i := 9) scLaw.nd rfl (Or.inl rfl) (pe_call G__law_draw.ok (hr.mono (by decide)) rfl G__law_draw.m G__law_draw.kp G__law_draw.b .nil pass0 (pa_cons (pv 1) (pa_cons (pe_callB call_len_seq (by rfl) T.len (by decide +kernel) (pa_cons (pv 2) pa_nil)) pa_nil))))
    (pss_cons (ps_set (i := 10) scLaw.nd rfl (Or.inl rfl) (pe_call G__law_pick.ok (hr.mono (by decide)) rfl G__law_pick.m G__law_pick.kp G__law_pick.b .nil pass0 (pa_cons (pv 1) (pa_cons (pe_lst (pa_cons (pe_tup (pa_cons pe_int (pa_cons pe_int pa_nil))) (pa_cons (pe_tup (pa_cons (pe_un un_neg pe_int) (pa_cons pe_int pa_nil))) (pa_cons (pe_tup (pa_cons pe_int (pa_cons pe_int pa_nil))) (pa_cons (pe_tup (pa_cons (pe_un un_neg pe_int) (pa_cons pe_int pa_nil))) (pa_cons (pe_tup (pa_cons pe_int (pa_cons (pe_op op_pow pe_int pe_int) pa_nil))) (pa_cons (pe_tup (pa_cons pe_int (pa_cons pe_int pa_nil))) pa_nil))))))) pa_nil))))
    (pss_cons (ps_set (i := 11) scLaw.nd rfl (Or.inl rfl) (pe_op op_cat (pe_callTy call_list_of (by rfl) T.list (by decide +kernel) (pa_cons (pv 7) pa_nil)) (pe_op op_rep (pe_lst (pa_cons (pe_tup (pa_cons pe_int (pa_cons pe_int pa_nil))) pa_nil)) (pe_op op_sub (pe_callB call_len_seq (by rfl) T.len (by decide +kernel) (pa_cons (pv 2) pa_nil)) (pe_callB call_len_seq (by rfl) T.len (by decide +kernel) (pa_cons (pv 7) pa_nil))))))
    (pss_cons (ps_asg (pe_call G__law_plus.ok (hr.mono (by decide)) rfl G__law_plus.m G__law_plus.kp G__law_plus.b .nil pass0 (pa_cons (pe_ix ix_list (pv 11) (pv 9) (fun _ _ => rfl)) (pa_cons (pe_call G__law_times.ok (hr.mono (by decide)) rfl G__law_times.m G__law_times.kp G__law_times.b .nil pass0 (pa_cons (pv 10) (pa_cons (pe_ix ix_list (pv 2) (pv 9) (fun _ _ => rfl)) pa_nil))) pa_nil))) (pg_sub (pv 11) (pv 9) set_list))
    (pss_cons (ps_set (i := 12) scLaw.nd rfl (Or.inl rfl) (pe_call G__law_made_poly.ok (hr.mono (by decide)) rfl G__law_made_poly.m G__law_made_poly.kp G__law_made_poly.b .nil pass0 (pa_cons (pv 1) (pa_cons (pe_call G__law_poly.ok (hr.mono (by decide)) rfl G__law_poly.m G__law_poly.kp G__law_poly.b .nil pass0 (pa_cons (pv 11) pa_nil)) pa_nil))))
    (pss_cons (ps_if (pt_cmpR op_notN (pe_call G_on_grid.ok (hr.mono (by decide)) rfl G_on_grid.m G_on_grid.kp G_on_grid.b .nil pass0 (pa_cons (pv 12) (pa_cons (pv 3) pa_nil))) pe_non (nomark _))
      (pss_one (ps_ret pe_bl))
      pss_nil)
    (pss_one (ps_if (pt_cmpR (op_neT hu64 hm1) (pe_call G_nearest_row.ok (hr.mono (by decide)) rfl G_nearest_row.m G_nearest_row.kp G_nearest_row.b .nil pass0 (pa_cons (pv 12) (pa_cons (pv 3) pa_nil))) (pe_callTy call_tuple_of (by rfl) T.tuple (by decide +kernel) (pa_cons (pe_lc (own := [("_law_one", 13), ("_law_step", 4)]) (g := (gTup K 2 (gCons (gName 13) (gCons (gName 4) gNil)))) (tt := tYes) rfl scLaw.nd (pi_zipB (by rfl) hzip (pa_cons (pv 11) (pa_cons (pv 2) pa_nil))) (blkOk_by (N := ["_law_script", "_law_pen_here", "_law_steps", "_law_passed_here", "_law_step", "_law_lap", "_law_row", "_law_own", "_law_told", "_law_k", "_law_part", "_law_bent", "_law_made", "_law_one", "_law_high"]) (sc := defScope sLaw) (by decide +kernel)) (fun _ _ _ _ _ => pg_tup rfl (pgs_cons (pg_name (i := 13) scLaw.nd rfl (Or.inl rfl)) (pgs_cons (pg_name (i := 4) scLaw.nd rfl (Or.inl rfl)) pgs_nil))) (fun _ _ _ _ _ => pts_nil) (fun _ _ _ _ _ => (pe_call G__law_nearest.ok (hr.mono (by decide)) rfl G__law_nearest.m G__law_nearest.kp G__law_nearest.b .nil pass0 (pa_cons (pv 13) (pa_cons (pv 4) pa_nil))))) pa_nil)) (nomark _))
      (pss_one (ps_ret pe_bl))
      pss_nil))))))))))))))
  (pss_cons (ps_set (i := 14) scLaw.nd rfl (Or.inl rfl) (pe_make PM.mkI PM.okI (hr.mono (by decide)) rfl PM.C.m PM.bI .nil passL (pa_cons (pe_op op_catA (pe_op op_repA (pe_tup (pa_cons pe_int pa_nil)) (pe_callB call_len_seq (by rfl) T.len (by decide +kernel) (pa_cons (pv 2) pa_nil))) (pe_tup (pa_cons pe_int pa_nil))) pa_nil)))
  (pss_one (ps_ret (pe_and (pe_cmpR op_isN (pe_call G_on_grid.ok (hr.mono (by decide)) rfl G_on_grid.m G_on_grid.kp G_on_grid.b .nil pass0 (pa_cons (pv 14) (pa_cons (pv 3) pa_nil))) pe_non (nomark _)) (pe_one (pe_cmpR (op_eqT hu64 hm1) (pe_call G_on_grid.ok (hr.mono (by decide)) rfl G_on_grid.m G_on_grid.kp G_on_grid.b .nil pass0 (pa_cons (pe_make PM.mkI PM.okI (hr.mono (by decide)) rfl PM.C.m PM.bI .nil passL (pa_cons (pe_tup pa_nil) pa_nil)) (pa_cons (pv 3) pa_nil))) (pe_op op_repA (pe_tup (pa_cons pe_int pa_nil)) (pe_callB call_len_seq (by rfl) T.len (by decide +kernel) (pa_cons (pv 2) pa_nil))) (nomark _)))))))))))), ?_⟩
    refine ⟨_, rfl, sc, ns, rfl, hS, hns, fun p lc H1 s1 np nlc hP => ?_⟩
    -- steps
    refine ⟨_, rfl, p, lc, _, rfl, hP, by decide, fun l qs H2 hP2 k2 rl n1 n5 g6 => ?_⟩
    have g6i : ∀ i, i < qs.length → G6 (cf qs i) := fun i hi => by rw [cf_lt hi]; exact g6 _ (List.getElem_mem hi)
    obtain ⟨as, el, ta⟩ := rl
    have la := ta.lenQ
    have lp : l ≠ p := RL.ne ⟨as, el, ta⟩ hP2
    refine ⟨_, rfl, l, rfl, lc_seq (xs := as.map V.ref) (.inl (SqL.of el)) (fun D i H' => Kp p H2 H' ∧ Pen H' p lc (100 + 3 * i) ∧ ∃ vs ds, H' D = some (.lst vs) ∧ Dts K (fz D p H') vs ds ∧ vs.length = i ∧ ∀ j d, ds[j]? = some d → Rt d (cf qs j)) ?_ ?_ ?_ ?_⟩
    · intro D hD
      exact ⟨Kp.of (same_upd hD), (hP2.same (same_upd hD)).more (by decide), [], [], upd_same, .nil, rfl, fun j d h => by cases h⟩
    · intro D i H' hD ⟨kk, _⟩
      exact seq_kp lp kk
    · intro D i x H' hD hi ⟨kk, hP', vs, ds, eD, dts, lv, hR⟩
      obtain ⟨d1, d2⟩ := hP2.ne_new hD
      rw [List.getElem?_map] at hi
      cases hr0 : as[i]? with
      | none => rw [hr0] at hi; cases hi
      | some r =>
        rw [hr0] at hi
        cases hi
        obtain ⟨qq, hq, er⟩ := ta.atQ hr0
        have hc := cf_get hq
        have ilt := (List.getElem?_eq_some_iff.mp hr0).1
        have rp : r ≠ p := by
          obtain ⟨_, _, _, _, _, g1, _⟩ := hP2
          exact ne_of er g1.1 (by intro z; cases z)
        obtain ⟨sn, sd⟩ := g6_sm (g6i i (by omega))
        rw [hc] at sn sd
        have b0 := qq.den_pos
        refine ⟨rfl, ?_⟩
        refine ⟨_, rfl, _, rfl, p, lc, r, _, qq.num, (qq.den : Int), rfl, hP', by omega, kk _ _ rp er, by omega, Nat.lt_of_le_of_lt sn (by decide +kernel), by show (qq.den : Int).natAbs < 2 ^ 80; rw [Int.natAbs_natCast]; exact Nat.lt_of_le_of_lt sd (by decide +kernel), fun v d kz H3 hP3 kp' hd pa k0 k3 gd => ?_⟩
        have eD' := kp' _ _ d1 eD
        have hp := hP'.there.choose_spec
        refine ⟨_, eD', ?_, ?_, (hP3.put upd_away d1 d2).more (by omega), vs ++ [v], ds ++ [d], upd_same, ?_, by rw [List.length_append, lv]; rfl, fun j d' h => ?_⟩
        · rw [lv, sizeLine_eq]
          omega
        · exact fun b o nb eb => by
            rw [upd_ne (ne_of_none eb hD)]
            exact kp' b o nb (kk b o nb eb)
        · have up : Same (fz D p H3) (fz D p (upd H3 D (.lst (vs ++ [v])))) := fz_mono fun b o h1 h2 e => by rw [upd_ne h1]; exact e
          exact (dts.mono ((fz_mono fun b o h1 h2 e => kp' b o h2 e).trans up)).app (.cons (hd.mono ((nw_fz eD hp).trans up)) .nil)
        · have ld := dts.len
          rw [lv] at ld
          rw [List.getElem?_append] at h
          split at h
          · exact hR j d' h
          · rename_i hj
            have e : j = i := by
              have := (List.getElem?_eq_some_iff.mp h).1
              have : j - ds.length < 1 := this
              omega
            have e2 : j - ds.length = 0 := by omega
            rw [e2] at h
            cases h
            rw [e, hc]
            refine ⟨_, _, pa, ?_, ?_, ?_⟩
            · have n := num_den qq
              have z1 : (((qq.den : Int) * kz : Int) : Rat) = ((qq.den : Nat) : Rat) * (kz : Rat) := by exact_mod_cast rfl
              have z2 : ((qq.num * kz : Int) : Rat) = (qq.num : Rat) * (kz : Rat) := by exact_mod_cast rfl
              rw [z1, z2, ← n]
              grind
            · have hk : kz.natAbs ≤ 3 := by omega
              show (qq.num * kz).natAbs < 2 ^ 200
              rw [Int.natAbs_mul]
              exact Nat.lt_of_le_of_lt (Nat.mul_le_mul sn hk) (by decide +kernel)
            · have hk : kz.natAbs ≤ 3 := by omega
              show ((qq.den : Int) * kz).natAbs < 2 ^ 200
              rw [Int.natAbs_mul, Int.natAbs_natCast]
              exact Nat.lt_of_le_of_lt (Nat.mul_le_mul sd hk) (by decide +kernel)
    · intro D H3 hD ⟨k3, hP3, vs, ds, eD, dts, lv, hR⟩
      obtain ⟨d1, d2⟩ := hP2.ne_new hD
      rw [List.length_map, la] at hP3 lv
      -- passed
      refine ⟨_, rfl, _, rfl, _, rfl, D, vs, rfl, .inl ⟨SqL.of eD, fun tg ntg => ?_⟩⟩
      have etg : upd H3 tg (HO.tup vs) tg = some (HO.tup vs) := upd_same
      have s4 : Same H3 (upd H3 tg (HO.tup vs)) := same_upd ntg
      have tgp := (hP3.ne_new ntg).1
      try dsimp only [] at ntg ⊢
      generalize upd H3 tg (HO.tup vs) = H4 at etg s4 ⊢
      have hP4 := hP3.same s4
      refine ⟨(by show 2 ≤ sizeLine; decide), fun l5 nl5 => ?_⟩
      have el5 : upd H4 l5 (HO.lst [V.ref D, V.ref tg]) l5 = some (HO.lst [V.ref D, V.ref tg]) := upd_same
      have s5 : Same H4 (upd H4 l5 (HO.lst [V.ref D, V.ref tg])) := same_upd nl5
      have l5p := (hP4.ne_new nl5).1
      try dsimp only [tNil, List.append_nil] at nl5 ⊢
      generalize upd H4 l5 (HO.lst [V.ref D, V.ref tg]) = H5 at el5 s5 ⊢
      have hP5 := hP4.same s5
      refine ⟨p, lc, l5, _, _, rfl, hP5, by omega, el5, l5p, (by show 0 < 2; decide), (by show 2 < 1000000; decide), fun x H6 hx hP6 k6 => ?_⟩
      have k36 : Kp p H3 H6 := (Kp.of (s4.trans s5)).trans k6
      have dts6 : Dts K H6 vs ds := dts.mono ((fz_mono fun b o _ h e => k36 b o h e).trans fz_sub)
      have stx : StO K H6 x qs := by
        refine ⟨?_, n1, n5, fun i hi => g6_pos (g6i i hi)⟩
        simp only [List.mem_cons, List.not_mem_nil, or_false] at hx
        rcases hx with h | h
        · exact ⟨D, true, vs, ds, h, SqL.of (k36 _ _ d1 eD), dts6, lv, hR⟩
        · exact ⟨tg, false, vs, ds, h, SqT.of (k6 _ _ tgp (s5 _ _ etg)), dts6, lv, hR⟩
      have rl6 : RL H6 l qs := RL.kp ⟨as, el, ta⟩ hP2 (k3.trans k36)
      have hP6 : Pen H6 p lc 200 := hP6.more (by omega)
      clear hx k36 dts6 dts eD s4 s5 etg el5 hP5 hP4 hP3 k3 k6 ta el la hP2 k2 hP s1 np nlc ntg nl5 l5p tgp hR lv lp d1 d2 hD
      refine ⟨4, rfl, by decide, by decide, for_range (lo := 0) (n := 4) (fun i σ H => ∃ v4 v5 v6 v7 v8 v9 v10 v11 v12 v13 : Option V, σ = [some (.ref sc), some (.ref p), some (.ref l), some x, v4, v5, v6, v7, v8, v9, v10, v11, v12, v13, none] ∧ Pen H p lc (200 + 300 * i) ∧ RL H l qs ∧ StO K H x qs)
        ⟨_, _, _, _, _, _, _, _, _, _, rfl, hP6.more (by decide), rl6, stx⟩ ?_ ?_⟩
      · rintro i σ H ih ⟨v4, v5, v6, v7, v8, v9, v10, v11, v12, v13, rfl, hP0, rl0, st0⟩
        -- the row
        obtain ⟨as, el, ta⟩ := rl0
        have la := ta.lenQ
        have lp : l ≠ p := RL.ne ⟨as, el, ta⟩ hP0
        refine ⟨_, rfl, l, rfl, lc_seq (xs := as.map V.ref) (.inl (SqL.of el)) (fun D j H' => Kp p H H' ∧ Pen H' p lc (200 + 300 * i + 2 * j) ∧ ∃ ms : List Int, H' D = some (.lst (ms.map V.int)) ∧ ms.length = j ∧ ∀ m ∈ ms, -10 ≤ m ∧ m ≤ 10) ?_ ?_ ?_ ?_⟩
        · intro D hD
          exact ⟨Kp.of (same_upd hD), (hP0.same (same_upd hD)).more (by omega), [], upd_same, rfl, fun m h => nomatch h⟩
        · intro D j H' hD ⟨kk, _⟩
          exact seq_kp lp kk
        · intro D j y H' hD hj ⟨kk, hP', ms, eD, lm, hm⟩
          obtain ⟨d1, d2⟩ := hP0.ne_new hD
          have jlt := (List.getElem?_eq_some_iff.mp hj).1
          rw [List.length_map] at jlt
          have fin : ∀ (m : Int) (H3 : Hp), -10 ≤ m → m ≤ 10 → Pen H3 p lc (200 + 300 * i + 2 * j + 2) → Kp p H' H3 → ∃ acc, H3 D = some (.lst acc) ∧ acc.length < sizeLine ∧ (Kp p H (upd H3 D (.lst (acc ++ [.int m]))) ∧ Pen (upd H3 D (.lst (acc ++ [.int m]))) p lc (200 + 300 * i + 2 * ((j + 1 : Nat) : Int)) ∧ ∃ ms : List Int, upd H3 D (.lst (acc ++ [.int m])) D = some (.lst (ms.map V.int)) ∧ ms.length = j + 1 ∧ ∀ m ∈ ms, -10 ≤ m ∧ m ≤ 10) := fun m H3 m0 m1 hP3 k3 => by
            refine ⟨_, k3 _ _ d1 eD, by rw [List.length_map, lm, sizeLine_eq]; omega, ?_, (hP3.put upd_away d1 d2).more (by omega), ms ++ [m], by rw [upd_same, List.map_append]; rfl, by rw [List.length_append, lm]; rfl, fun y hy => ?_⟩
            · exact fun b o nb eb => by
                rw [upd_ne (ne_of_none eb hD)]
                exact k3 b o nb (kk b o nb eb)
            · rcases List.mem_append.mp hy with h | h
              · exact hm y h
              · rw [List.mem_singleton.mp h]
                exact ⟨m0, m1⟩
          refine ⟨rfl, ?_⟩
          refine ⟨_, rfl, p, lc, _, 3, rfl, hP', by omega, by decide, by decide, fun z H3 z0 z1 hP3 k3 => ⟨_, _, rfl, rfl, _, rfl, ?_⟩⟩
          refine ite2 (fun hz => ?_) (fun hz => ?_)
          · refine ⟨_, rfl, p, lc, _, 21, rfl, hP3, by omega, by decide, by decide, fun y H4 y0 y1 hP4 k4 => ⟨_, _, rfl, rfl, ?_⟩⟩
            exact fin (y - 10) H4 (by omega) (by omega) (hP4.more (by omega)) (k3.trans k4)
          · exact fin 0 H3 (by decide) (by decide) (hP3.more (by omega)) k3
        intro D Ha hD ⟨ka, hPa, ms, eD, lm, hm⟩
        rw [List.length_map, la] at hPa lm
        have rla : RL Ha l qs := RL.kp ⟨as, el, ta⟩ hP0 ka
        have sta := st0.kp hP0 ka
        have hPa : Pen Ha p lc (200 + 300 * i + 10) := hPa.more (by omega)
        have cm : ∀ j, (ci ms j).natAbs ≤ 10 := fun j => by
          by_cases hj : j < ms.length
          · have e := ci_lt hj
            have := hm _ (List.mem_of_getElem? e)
            omega
          · rw [ci_ge (by omega)]
            decide
        refine ⟨D, _, rfl, .inl ⟨SqL.of eD, fun tr ntr => ?_⟩⟩
        have etr : upd Ha tr (HO.tup (ms.map V.int)) tr = some (HO.tup (ms.map V.int)) := upd_same
        have s1 : Same Ha (upd Ha tr (HO.tup (ms.map V.int))) := same_upd ntr
        have trp := (hPa.ne_new ntr).1
        try dsimp only [] at ntr ⊢
        generalize upd Ha tr (HO.tup (ms.map V.int)) = Hb at etr s1 ⊢
        replace rla := rla.same s1
        replace sta := sta.same s1
        have hPb := hPa.same s1
        clear hPa ka eD hD s1 ntr ta el la lp hP0 st0
        -- own
        have posq : ∀ i, i < qs.length → 0 < cf qs i := fun i hi => g6_pos (g6i i hi)
        have smq : ∀ i, (cf qs i).num.natAbs ≤ 3 ∧ (cf qs i).den ≤ 8 := fun i => by
          by_cases hi : i < qs.length
          · exact g6_sm (g6i i hi)
          · rw [cf_ge (by omega)]
            decide
        have two : ∀ {k : Nat}, 0 < k → k < 1900 → (2 : Nat) ^ k < 2 ^ 1900 := fun _ h => Nat.pow_lt_pow_right (by decide) h
        have srq : SrL qs := fun i => ⟨Nat.lt_of_le_of_lt (smq i).1 (Nat.lt_trans (show 3 < 2 ^ 10 by decide) (two (by decide) (by decide))), Nat.lt_of_le_of_lt (smq i).2 (Nat.lt_trans (show 8 < 2 ^ 10 by decide) (two (by decide) (by decide)))⟩
        refine ⟨_, rfl, _, rfl, tr, l, ms, qs, rfl, SqT.of etr, rla, lm, n5, fun j => Nat.lt_of_le_of_lt (cm j) (Nat.lt_trans (show 10 < 2 ^ 10 by decide) (two (by decide) (by decide))), srq, fun lo Hc s2 rlo => ?_⟩
        replace rla := rla.same s2
        replace sta := sta.same s2
        replace etr := s2 _ _ etr
        have hPc := hPb.same s2
        -- told
        refine ⟨_, rfl, _, rfl, _, rfl, tr, _, rfl, .inr (SqT.of etr), fun lr nlr => ?_⟩
        have elr : upd Hc lr (HO.lst (ms.map V.int)) lr = some (HO.lst (ms.map V.int)) := upd_same
        have s3 : Same Hc (upd Hc lr (HO.lst (ms.map V.int))) := same_upd nlr
        have lrp := (hPc.ne_new nlr).1
        try dsimp only [] at nlr ⊢
        generalize upd Hc lr (HO.lst (ms.map V.int)) = Hd at elr s3 ⊢
        replace etr := s3 _ _ etr
        have hPd := hPc.same s3
        refine ⟨(by show 2 ≤ sizeLine; decide), fun l5 nl5 => ?_⟩
        have el5 : upd Hd l5 (HO.lst [V.ref tr, V.ref lr]) l5 = some (HO.lst [V.ref tr, V.ref lr]) := upd_same
        have s4 : Same Hd (upd Hd l5 (HO.lst [V.ref tr, V.ref lr])) := same_upd nl5
        have l5p := (hPd.ne_new nl5).1
        try dsimp only [tNil, List.append_nil] at nl5 ⊢
        generalize upd Hd l5 (HO.lst [V.ref tr, V.ref lr]) = He at el5 s4 ⊢
        have hPe := hPd.same s4
        have s24 := s3.trans s4
        refine ⟨p, lc, l5, _, _, rfl, hPe, by omega, el5, l5p, (by show 0 < 2; decide), (by show 2 < 1000000; decide), fun y Hf hy hPf kf => ?_⟩
        have hPf : Pen Hf p lc (200 + 300 * i + 12) := hPf.more (by omega)
        replace rla := (rla.same s24).kp hPe kf
        replace sta := (sta.same s24).kp hPe kf
        replace rlo := (rlo.same s24).kp hPe kf
        have etr : Hf tr = some (HO.tup (ms.map V.int)) := kf _ _ trp (s4 _ _ etr)
        have iry : IR K Hf y ms := by
          simp only [List.mem_cons, List.not_mem_nil, or_false] at hy
          rcases hy with h | h
          · exact ⟨tr, false, h, SqT.of etr⟩
          · exact ⟨lr, true, h, SqL.of (kf _ _ lrp (s4 _ _ elr))⟩
        clear hy s2 s3 s4 s24 hPb hPc hPd hPe elr el5 nlr nl5 l5p lrp kf
        have szm : ∀ j, Sz (ci ms j) := fun j => Nat.lt_of_le_of_lt (cm j) (by decide +kernel)
        refine ⟨_, rfl, y, x, ms, qs, rfl, iry, sta, lm, szm, fun md Hg s5 nmd pm => ?_⟩
        replace rla := rla.same s5
        replace sta := sta.same s5
        replace rlo := rlo.same s5
        replace etr := s5 _ _ etr
        have hPg := hPf.same s5
        clear iry s5 nmd hPf
        obtain ⟨o1, o2, o3⟩ := onG_gq lm posq
        have z2n : ∀ j, Z2 (cf (stripQ (gq ms qs)) j) := fun j => by
          rw [cf_stripQ]
          by_cases hj : j < qs.length
          · rw [cf_gq ms qs hj]
            have h := (Fr.self (((ci ms j : Int) : Rat))).mul (Fr.self (cf qs j))
            rw [Rat.num_intCast, Rat.den_intCast, Nat.one_mul] at h
            obtain ⟨h1, h2⟩ := h.size (cf qs j).den_pos
            refine ⟨Nat.lt_of_le_of_lt h1 (Nat.lt_of_le_of_lt (Nat.mul_le_mul (cm j) (smq j).1) (by decide +kernel)), ?_⟩
            show ((_ : Nat) : Int).natAbs < 2 ^ 200
            rw [Int.natAbs_natCast]
            exact Nat.lt_of_le_of_lt h2 (Nat.lt_of_le_of_lt (smq j).2 (by decide +kernel))
          · rw [cf_gq0 ms qs (by omega)]
            exact z2_zero
        -- the first three
        refine ⟨_, rfl, .ref md, .ref CP, _, .ref CP, _, rfl, .own _, PolyAt.ty PM.C pm, PM.C.io, _, rfl, ?_⟩
        refine iteF ?_
        obtain ⟨dz, tz, zs, hz1, hz2, hz3⟩ := id pm
        refine ⟨_, rfl, md, CP, dz, _, .ref tz, rfl, hz1, PM.C.cl, PM.C.nf, (by kernel_rfl), tz, _, rfl, .inr (SqT.of hz2), fun lz nlz => ?_⟩
        have elz : upd Hg lz (HO.lst (zs.map V.ref)) lz = some (HO.lst (zs.map V.ref)) := upd_same
        have s6 : Same Hg (upd Hg lz (HO.lst (zs.map V.ref))) := same_upd nlz
        try dsimp only [] at nlz ⊢
        generalize upd Hg lz (HO.lst (zs.map V.ref)) = Hh at elz s6 ⊢
        replace rla := rla.same s6
        replace sta := sta.same s6
        replace rlo := rlo.same s6
        replace etr := s6 _ _ etr
        replace pm := pm.same s6
        have hPh := hPg.same s6
        obtain ⟨os, eo, to⟩ := id rlo
        refine ⟨_, rfl, _, _, .lst (SqL.of elz) (hz3.same s6).dts, .lst (SqL.of eo) to.dts, (plain_row _).2, (plain_row _).2, (depth_row _).2, ?_⟩
        rw [eqv_rowL, decide_eq_true rfl]
        refine ⟨_, rfl, ?_⟩
        refine iteF ?_
        clear eo to os elz s6 nlz hz1 hz2 hz3 hPg
        refine ⟨_, rfl, _, rfl, md, x, _, qs, rfl, pm, sta, z2n, (fun h => by rw [o1] at h; cases h), fun ns' h t1 Hi s7 e7 => ?_⟩
        rw [o1] at h
        cases h
        replace etr := s7 _ _ etr
        refine ⟨_, rfl, _, _, .tup (SqT.of e7) (dts_ints ms), .tup (SqT.of etr) (dts_ints ms), (eqv_ints ms).2.1, (eqv_ints ms).2.1, (eqv_ints ms).2.2, ?_⟩
        rw [(eqv_ints ms).1]
        refine ⟨_, rfl, ?_⟩
        refine iteF ?_
        replace rla := rla.same s7
        replace sta := sta.same s7
        replace rlo := rlo.same s7
        replace pm := pm.same s7
        have hPi := hPh.same s7
        clear s7 e7 hPh
        -- nearest
        have w2 : ∀ j, j < qs.length → Z2 (wq (stripQ (gq ms qs)) qs j) := fun j hj => by
          rw [wq_gq hj (fun z => by have := posq j hj; rw [z] at this; exact absurd this (by decide))]
          refine ⟨by rw [Rat.num_intCast]; exact szm j, by rw [Rat.den_intCast]; exact sz_01.2⟩
        refine ⟨_, rfl, _, rfl, md, x, _, qs, rfl, pm, sta, o3, z2n, w2, fun t2 Hj s8 e8 => ?_⟩
        rw [o2] at e8
        replace etr := s8 _ _ etr
        refine ⟨_, rfl, _, _, .tup (SqT.of e8) (dts_ints ms), .tup (SqT.of etr) (dts_ints ms), (eqv_ints ms).2.1, (eqv_ints ms).2.1, (eqv_ints ms).2.2, ?_⟩
        rw [(eqv_ints ms).1]
        refine ⟨_, rfl, ?_⟩
        refine iteF ?_
        replace rla := rla.same s8
        replace sta := sta.same s8
        replace rlo := rlo.same s8
        have hPj := hPi.same s8
        clear s8 e8 hPi w2 etr pm
        -- k
        obtain ⟨as, el, ta⟩ := id rla
        have la := ta.lenQ
        refine ⟨_, rfl, _, rfl, l, _, rfl, .inl (SqL.of el), p, lc, _, _, rfl, hPj, by omega, by rw [List.length_map]; omega, by rw [List.length_map]; omega, fun kz Hk k0 k1 hPk kk => ?_⟩
        rw [List.length_map, la] at k1
        obtain ⟨k, rfl⟩ := Int.eq_ofNat_of_zero_le k0
        have hk : k < qs.length := by omega
        clear k0 k1 el ta la
        replace rla := rla.kp hPj kk
        replace sta := sta.kp hPj kk
        replace rlo := rlo.kp hPj kk
        clear kk hPj
        -- part
        refine ⟨_, rfl, (by show 2 ≤ sizeLine; decide), fun u0 nu0 => ?_⟩
        have eu0 : TR (upd Hk u0 (HO.tup [V.int 1, V.int 2])) u0 pa0 := upd_same
        have s0 : Same Hk (upd Hk u0 (HO.tup [V.int 1, V.int 2])) := same_upd nu0
        try dsimp only [] at nu0 ⊢
        generalize upd Hk u0 (HO.tup [V.int 1, V.int 2]) = Hp0 at eu0 s0 ⊢
        refine ⟨_, rfl, (by show 2 ≤ sizeLine; decide), fun u1 nu1 => ?_⟩
        have eu1 : TR (upd Hp0 u1 (HO.tup [V.int (-1), V.int 2])) u1 pa1 := upd_same
        have s1 : Same Hp0 (upd Hp0 u1 (HO.tup [V.int (-1), V.int 2])) := same_upd nu1
        try dsimp only [] at nu1 ⊢
        generalize upd Hp0 u1 (HO.tup [V.int (-1), V.int 2]) = Hp1 at eu1 s1 ⊢
        refine ⟨(by show 2 ≤ sizeLine; decide), fun u2 nu2 => ?_⟩
        have eu2 : TR (upd Hp1 u2 (HO.tup [V.int 1, V.int 3])) u2 pa2 := upd_same
        have s2 : Same Hp1 (upd Hp1 u2 (HO.tup [V.int 1, V.int 3])) := same_upd nu2
        try dsimp only [] at nu2 ⊢
        generalize upd Hp1 u2 (HO.tup [V.int 1, V.int 3]) = Hp2 at eu2 s2 ⊢
        refine ⟨_, rfl, (by show 2 ≤ sizeLine; decide), fun u3 nu3 => ?_⟩
        have eu3 : TR (upd Hp2 u3 (HO.tup [V.int (-2), V.int 3])) u3 pa3 := upd_same
        have s3 : Same Hp2 (upd Hp2 u3 (HO.tup [V.int (-2), V.int 3])) := same_upd nu3
        try dsimp only [] at nu3 ⊢
        generalize upd Hp2 u3 (HO.tup [V.int (-2), V.int 3]) = Hp3 at eu3 s3 ⊢
        refine ⟨_, _, rfl, rfl, (by unfold CPow; decide +kernel), (by show 2 ≤ sizeLine; decide), fun u4 nu4 => ?_⟩
        have eu4 : TR (upd Hp3 u4 (HO.tup [V.int 1, V.int (10 ^ (9 : Int).toNat)])) u4 pa4 := upd_same
        have s4 : Same Hp3 (upd Hp3 u4 (HO.tup [V.int 1, V.int (10 ^ (9 : Int).toNat)])) := same_upd nu4
        try dsimp only [] at nu4 ⊢
        generalize upd Hp3 u4 (HO.tup [V.int 1, V.int (10 ^ (9 : Int).toNat)]) = Hp4 at eu4 s4 ⊢
        refine ⟨(by show 2 ≤ sizeLine; decide), fun u5 nu5 => ?_⟩
        have eu5 : TR (upd Hp4 u5 (HO.tup [V.int 499, V.int 1000])) u5 pa5 := upd_same
        have s5 : Same Hp4 (upd Hp4 u5 (HO.tup [V.int 499, V.int 1000])) := same_upd nu5
        try dsimp only [] at nu5 ⊢
        generalize upd Hp4 u5 (HO.tup [V.int 499, V.int 1000]) = Hp5 at eu5 s5 ⊢
        refine ⟨(by show 6 ≤ sizeLine; decide), fun lk nlk => ?_⟩
        have elk : upd Hp5 lk (HO.lst [V.ref u0, V.ref u1, V.ref u2, V.ref u3, V.ref u4, V.ref u5]) lk = some (HO.lst [V.ref u0, V.ref u1, V.ref u2, V.ref u3, V.ref u4, V.ref u5]) := upd_same
        have s6 : Same Hp5 (upd Hp5 lk (HO.lst [V.ref u0, V.ref u1, V.ref u2, V.ref u3, V.ref u4, V.ref u5])) := same_upd nlk
        try dsimp only [tNil, List.append_nil] at nlk ⊢
        generalize upd Hp5 lk (HO.lst [V.ref u0, V.ref u1, V.ref u2, V.ref u3, V.ref u4, V.ref u5]) = Hq at elk s6 ⊢
        have sA : Same Hk Hp5 := s0.trans (s1.trans (s2.trans (s3.trans (s4.trans s5))))
        have hPq := hPk.same (sA.trans s6)
        have lkp := ((hPk.same sA).ne_new nlk).1
        refine ⟨p, lc, lk, _, _, rfl, hPq, by omega, elk, lkp, (by show 0 < 6; decide), (by show 6 < 1000000; decide), fun y Hr hy hPr kr => ?_⟩
        obtain ⟨ru, part, rfl, eru, hpart⟩ : ∃ r gq, y = V.ref r ∧ TR Hq r gq ∧ P6 gq := by
          simp only [List.mem_cons, List.not_mem_nil, or_false] at hy
          rcases hy with h | h | h | h | h | h
          · exact ⟨u0, pa0, h, (((((eu0.same s1).same s2).same s3).same s4).same s5).same s6, .inl rfl⟩
          · exact ⟨u1, pa1, h, ((((eu1.same s2).same s3).same s4).same s5).same s6, .inr (.inl rfl)⟩
          · exact ⟨u2, pa2, h, (((eu2.same s3).same s4).same s5).same s6, .inr (.inr (.inl rfl))⟩
          · exact ⟨u3, pa3, h, ((eu3.same s4).same s5).same s6, .inr (.inr (.inr (.inl rfl)))⟩
          · exact ⟨u4, pa4, h, (eu4.same s5).same s6, .inr (.inr (.inr (.inr (.inl rfl))))⟩
          · exact ⟨u5, pa5, h, eu5.same s6, .inr (.inr (.inr (.inr (.inr rfl))))⟩
        replace eru := eru.kp hPq kr
        replace rla := (rla.same (sA.trans s6)).kp hPq kr
        replace sta := (sta.same (sA.trans s6)).kp hPq kr
        replace rlo := (rlo.same (sA.trans s6)).kp hPq kr
        have hPr : Pen Hr p lc (200 + 300 * i + 20) := hPr.more (by omega)
        clear hy kr hPq lkp sA s6 elk nlk s0 s1 s2 s3 s4 s5 eu0 eu1 eu2 eu3 eu4 eu5 nu0 nu1 nu2 nu3 nu4 nu5 hPk
        -- bent
        obtain ⟨as, el, ta⟩ := id rla
        have la := ta.lenQ
        obtain ⟨os, eo, to⟩ := id rlo
        have lo' := to.lenQ
        refine ⟨_, rfl, lo, _, rfl, .inl (SqL.of eo), fun lb nlb => ?_⟩
        have elb : upd Hr lb (HO.lst (os.map V.ref)) lb = some (HO.lst (os.map V.ref)) := upd_same
        have s1 : Same Hr (upd Hr lb (HO.lst (os.map V.ref))) := same_upd nlb
        try dsimp only [] at nlb ⊢
        generalize upd Hr lb (HO.lst (os.map V.ref)) = Hs at elb s1 ⊢
        refine ⟨(by show 2 ≤ sizeLine; decide), fun t0 nt0 => ?_⟩
        have et0 : TR (upd Hs t0 (HO.tup [V.int 0, V.int 1])) t0 0 := upd_same
        have s2 : Same Hs (upd Hs t0 (HO.tup [V.int 0, V.int 1])) := same_upd nt0
        try dsimp only [] at nt0 ⊢
        generalize upd Hs t0 (HO.tup [V.int 0, V.int 1]) = Ht at et0 s2 ⊢
        refine ⟨(by show 1 ≤ sizeLine; decide), fun k1 nk1 => ?_⟩
        have ek1 : upd Ht k1 (HO.lst [V.ref t0]) k1 = some (HO.lst [V.ref t0]) := upd_same
        have s3 : Same Ht (upd Ht k1 (HO.lst [V.ref t0])) := same_upd nk1
        try dsimp only [tNil, List.append_nil] at nk1 ⊢
        generalize upd Ht k1 (HO.lst [V.ref t0]) = Hu at ek1 s3 ⊢
        have s13 : Same Hr Hu := s1.trans (s2.trans s3)
        refine ⟨_, rfl, l, _, rfl, .inl (SqL.of (s13 _ _ el)), _, rfl, lo, _, rfl, .inl (SqL.of (s13 _ _ eo)), _, _, rfl, rfl, ?_⟩
        rw [List.length_map, List.length_map, la, lo']
        generalize hOw : stripQ (gq ms qs) = Ow at *
        have hmm : (((qs.length : Nat) : Int) - ((Ow.length : Nat) : Int)).toNat = qs.length - Ow.length := by omega
        refine ⟨k1, ((qs.length : Nat) : Int) - ((Ow.length : Nat) : Int), _, rfl, rfl, ek1, by omega, by omega, (by rw [sizeLine_eq]; show 1 * _ ≤ _; omega), fun fo nfo => ?_⟩
        rw [hmm]
        have efo : upd Hu fo (HO.lst (List.replicate (qs.length - Ow.length) [V.ref t0]).flatten) fo = some (HO.lst ((List.replicate (qs.length - Ow.length) t0).map V.ref)) := by
          rw [upd_same, flat_repQ]
        have s4 : Same Hu (upd Hu fo (HO.lst (List.replicate (qs.length - Ow.length) [V.ref t0]).flatten)) := same_upd nfo
        try dsimp only [] at nfo ⊢
        generalize upd Hu fo (HO.lst (List.replicate (qs.length - Ow.length) [V.ref t0]).flatten) = Hv at efo s4 ⊢
        refine ⟨lb, fo, _, _, rfl, rfl, s4 _ _ (s3 _ _ (s2 _ _ elb)), efo, (by rw [List.length_map, List.length_map, List.length_replicate, sizeLine_eq]; omega), fun be nbe => ?_⟩
        rw [← List.map_append]
        have ebe : upd Hv be (HO.lst ((os ++ List.replicate (qs.length - Ow.length) t0).map V.ref)) be = some (HO.lst ((os ++ List.replicate (qs.length - Ow.length) t0).map V.ref)) := upd_same
        have s5 : Same Hv (upd Hv be (HO.lst ((os ++ List.replicate (qs.length - Ow.length) t0).map V.ref))) := same_upd nbe
        try dsimp only [] at nbe ⊢
        generalize upd Hv be (HO.lst ((os ++ List.replicate (qs.length - Ow.length) t0).map V.ref)) = Hw at ebe s5 ⊢
        have nbeR : Hr be = none := (s13.trans s4).free nbe
        have sRW : Same Hr Hw := (s13.trans s4).trans s5
        have tb : Tups Hw (os ++ List.replicate (qs.length - Ow.length) t0) ((Ow ++ List.replicate (qs.length - Ow.length) 0).map pq) := by
          rw [List.map_append]
          exact (to.same sRW).app (tups_rep0 (((et0.same s3).same s4).same s5) _)
        have cB0 : ∀ j, cf (Ow ++ List.replicate (qs.length - Ow.length) 0) j = cf Ow j := fun j => by
          rw [cf_app]
          split
          · rfl
          · rw [cf_rep0, cf_ge (by omega)]
        have lB0 : (Ow ++ List.replicate (qs.length - Ow.length) 0).length = qs.length := by
          rw [List.length_append, List.length_replicate]
          omega
        generalize hB0 : Ow ++ List.replicate (qs.length - Ow.length) (0 : Rat) = B0 at tb cB0 lB0
        generalize hzb : os ++ List.replicate (qs.length - Ow.length) t0 = zb at tb ebe ⊢
        clear hzb hB0 s1 s2 s3 s4 s5 s13 elb et0 ek1 efo nlb nt0 nk1 nfo nbe eo to lo' rlo hmm
        -- the bent number
        obtain ⟨rc, hc1, hc2⟩ := tb.getQ (i := k) (by rw [lB0]; exact hk)
        obtain ⟨ra, ha1, ha2⟩ := ta.getQ hk
        have gc : (zb.map V.ref)[k]? = some (V.ref rc) := by rw [List.getElem?_map, hc1]; rfl
        have ga : (as.map V.ref)[k]? = some (V.ref ra) := by rw [List.getElem?_map, ha1]; rfl
        have cOw : ∀ j, j < qs.length → cf Ow j = ((ci ms j : Int) : Rat) * cf qs j := fun j hj => by rw [← hOw, cf_stripQ, cf_gq ms qs hj]
        have hpd := p6_sm hpart
        have hpd0 := part.den_pos
        have frq : ∀ j, Fr (cf qs j).den 3 (cf qs j) := fun j => (Fr.self _).le (smq j).1
        have frw : ∀ j, Fr (part.den * (cf qs j).den) ((10 * part.den + 499) * 3) (wv ms k part j * cf qs j) := fun j => (fr_wv cm hpart j).mul (frq j)
        have smw : ∀ j, RatOk (pq (wv ms k part j * cf qs j)) ∧ Z2 (wv ms k part j * cf qs j) ∧ Sr (wv ms k part j * cf qs j) := fun j => by
          have hd := (cf qs j).den_pos
          refine small_fr (Nat.mul_pos hpd0 hd) (frw j) (Nat.lt_of_le_of_lt (Nat.mul_le_mul hpd.2.1 (smq j).2) (by decide +kernel)) (Nat.lt_of_le_of_lt (Nat.mul_le_mul_right 3 (show 10 * part.den + 499 ≤ 10 * 1000000000 + 499 by omega)) (by decide +kernel))
        have smv : ∀ j, RatOk (pq (wv ms k part j)) ∧ Z2 (wv ms k part j) ∧ Sr (wv ms k part j) := fun j =>
          small_fr hpd0 (fr_wv cm hpart j) (Nat.lt_of_le_of_lt hpd.2.1 (by decide +kernel)) (Nat.lt_of_le_of_lt (show 10 * part.den + 499 ≤ 10 * 1000000000 + 499 by omega) (by decide +kernel))
        have srp : Sr part := (small_fr hpd0 (Fr.self part) (Nat.lt_of_le_of_lt hpd.2.1 (by decide +kernel)) (Nat.lt_of_le_of_lt hpd.1 (by decide +kernel))).2.2
        have sro : Sr (((ci ms k : Int) : Rat) * cf qs k) := by
          have h := (Fr.self (((ci ms k : Int) : Rat))).mul (frq k)
          rw [Rat.num_intCast, Rat.den_intCast, Nat.one_mul] at h
          exact (small_fr (cf qs k).den_pos h (Nat.lt_of_le_of_lt (smq k).2 (by decide +kernel)) (Nat.lt_of_le_of_lt (Nat.mul_le_mul_right 3 (cm k)) (by decide +kernel))).2.2
        have srpq : Sr (rMul part (cf qs k)) := by
          have h := (Fr.self part).mul (frq k)
          exact (small_fr (Nat.mul_pos hpd0 (cf qs k).den_pos) h (Nat.lt_of_le_of_lt (Nat.mul_le_mul hpd.2.1 (smq k).2) (by decide +kernel)) (Nat.lt_of_le_of_lt (Nat.mul_le_mul_right 3 hpd.1) (by decide +kernel))).2.2
        refine ⟨_, rfl, _, rfl, be, _, _, .ref rc, rfl, rfl, SqL.of ebe, at_of rfl gc, ?_⟩
        refine ⟨_, rfl, _, rfl, _, rfl, l, _, _, .ref ra, rfl, rfl, SqL.of (sRW _ _ el), at_of rfl ga, ?_⟩
        refine ⟨ru, ra, part, cf qs k, rfl, eru.same sRW, ha2.same sRW, srp, srq k, fun r7 H7 s7 nr7 er7 => ?_⟩
        refine ⟨rc, r7, _, _, rfl, hc2.same s7, er7, by rw [cB0, cOw k hk]; exact sro, srpq, fun r8 H8 s8 nr8 er8 => ?_⟩
        have s78 := s7.trans s8
        have e8 := s78 _ _ ebe
        have hix : ixN (zb.map V.ref).length ((k : Nat) : Int) = some k := by
          unfold ixN
          have := tb.lenQ
          rw [if_pos (by omega), List.length_map, if_pos (by omega)]
          rfl
        refine ⟨_, rfl, _, rfl, be, _, _, k, rfl, rfl, e8, hix, ?_⟩
        have e9 : upd H8 be (HO.lst ((zb.map V.ref).set k (V.ref r8))) be = some (HO.lst ((zb.set k r8).map V.ref)) := by rw [upd_same, List.map_set]
        have sR9 : Same Hr (upd H8 be (HO.lst ((zb.map V.ref).set k (V.ref r8)))) := fun b o e => by
          rw [upd_ne (ne_of_none e nbeR)]
          exact s78 _ _ (sRW _ _ e)
        have t9 : Tups (upd H8 be (HO.lst ((zb.map V.ref).set k (V.ref r8)))) (zb.set k r8) ((B0.set k (cf B0 k + part * cf qs k)).map pq) := by
          have up : ∀ (c : Addr) (p : Int × Int), H8 c = some (.tup [.int p.1, .int p.2]) → upd H8 be (.lst ((zb.map V.ref).set k (V.ref r8))) c = some (.tup [.int p.1, .int p.2]) := fun c p z => by
            rw [upd_ne (ne_of z e8 (by intro z; cases z))]
            exact z
          have er8' : TR H8 r8 (cf B0 k + part * cf qs k) := er8
          exact ((tb.same s78).setQ k er8').imp up
        generalize upd H8 be (HO.lst ((zb.map V.ref).set k (V.ref r8))) = H9 at e9 sR9 t9 ⊢
        have cB1 : ∀ j, j < qs.length → cf (B0.set k (cf B0 k + part * cf qs k)) j = wv ms k part j * cf qs j := fun j hj => by
          rw [cf_set (by rw [lB0]; exact hk)]
          unfold wv
          split
          · rename_i e
            rw [e, cB0, cOw k hk, Rat.add_mul]
          · rw [cB0, cOw j hj, Rat.add_zero]
        have lB1 : (B0.set k (cf B0 k + part * cf qs k)).length = qs.length := by rw [List.length_set, lB0]
        generalize B0.set k (cf B0 k + part * cf qs k) = B1 at t9 cB1 lB1
        generalize zb.set k r8 = zc at e9 t9
        replace rla := rla.same sR9
        replace sta := sta.same sR9
        have hP9 := hPr.same sR9
        clear sR9 e8 s78 s7 s8 er7 er8 nr7 nr8 gc ga hc1 hc2 ha1 ha2 ebe sRW nbeR tb cB0 lB0 el ta la hPr sro srpq hix
        have cS : ∀ j, cf (stripQ B1) j = if j < qs.length then wv ms k part j * cf qs j else 0 := fun j => by
          rw [cf_stripQ]
          by_cases hj : j < qs.length
          · rw [if_pos hj, cB1 j hj]
          · rw [if_neg hj, cf_ge (by omega)]
        have lS : (stripQ B1).length ≤ qs.length := by have := stripQ_len B1; omega
        have okS : ∀ j, RatOk (pq (cf (stripQ B1) j)) ∧ Z2 (cf (stripQ B1) j) := fun j => by
          rw [cS]
          by_cases hj : j < qs.length
          · rw [if_pos hj]
            exact ⟨(smw j).1, (smw j).2.1⟩
          · rw [if_neg hj]
            exact ⟨sm_s80 sm_zero', z2_zero⟩
        have wS : ∀ j, j < qs.length → wq (stripQ B1) qs j = wv ms k part j := fun j hj => by
          unfold wq
          rw [cS, if_pos hj, Rat.mul_div_cancel (fun z => by have := posq j hj; rw [z] at this; exact absurd this (by decide))]
        -- made
        refine ⟨_, rfl, _, rfl, ?_⟩
        try dsimp only [tNil, List.append_nil]
        refine lpoly_q (E := E0) ⟨zc, e9, t9⟩ (by omega) fun l' Ha' sa rl' => ?_
        refine ⟨p, lc, l', _, stripQ B1, rfl, hP9.same sa, by omega, rl', by omega, stripQ_id (stripQ_stp _), fun j => (okS j).1, fun md2 Hb' hPb' kb pm2 => ?_⟩
        have k9 : Kp p H9 Hb' := (Kp.of sa).trans kb
        replace rla := rla.kp hP9 k9
        replace sta := sta.kp hP9 k9
        have rlb : RL Hb' be B1 := RL.kp ⟨zc, e9, t9⟩ hP9 k9
        have hPb' : Pen Hb' p lc (200 + 300 * i + 200) := hPb'.more (by omega)
        clear k9 kb sa rl' e9 t9 hP9
        have onN : onG (stripQ B1) qs = none := by
          unfold onG
          rw [if_neg (by omega), if_neg (fun h => wv_part hpart (by rw [← wS k hk]; exact h k hk))]
        refine ⟨_, rfl, _, rfl, md2, x, _, qs, rfl, pm2, sta, fun j => (okS j).2, fun _ Hc' sc' => ⟨rfl, _, rfl, ?_⟩, fun ns' h => by rw [onN] at h; cases h⟩
        refine iteF ?_
        replace rla := rla.same sc'
        replace sta := sta.same sc'
        replace rlb := rlb.same sc'
        replace pm2 := pm2.same sc'
        have hPc' := hPb'.same sc'
        clear sc' hPb'
        refine ⟨_, rfl, _, rfl, md2, x, _, qs, rfl, pm2, sta, lS, fun j => (okS j).2, (fun j hj => by rw [wS j hj]; exact (smv j).2.1), fun t2 Hd' sd e2 => ?_⟩
        replace rla := rla.same sd
        replace sta := sta.same sd
        replace rlb := rlb.same sd
        have hPd' := hPc'.same sd
        clear sd hPc' pm2
        obtain ⟨as, el, ta⟩ := id rla
        have la := ta.lenQ
        obtain ⟨zs', eb, tb⟩ := rlb
        have lb' := tb.lenQ
        refine ⟨_, rfl, _, rfl, true, true, be, l, _, _, rfl, SqL.of eb, SqL.of el, fun D' nD' => ?_⟩
        refine lc_zipB (xs := zs'.map V.ref) (ys := as.map V.ref) (by rw [List.length_map, List.length_map]; omega) (fun j H' => Same Hd' H' ∧ H' D' = some (.lst (((tab j (wq (stripQ B1) qs)).map fun w => gNear w.num w.den).map V.int))) ⟨same_upd nD', upd_same⟩ (fun j H' h => ⟨SqL.of (h.1 _ _ eb), SqL.of (h.1 _ _ el)⟩) ?_ ?_
        · rintro j y1 y2 T1 H' hy1 hy2 ⟨ss, eD⟩ nT
          have sT : Same H' (upd H' T1 (HO.tup [y1, y2])) := same_upd nT
          have eT : upd H' T1 (HO.tup [y1, y2]) T1 = some (HO.tup [y1, y2]) := upd_same
          generalize upd H' T1 (HO.tup [y1, y2]) = H2' at sT eT ⊢
          rw [List.getElem?_map] at hy1 hy2
          cases hr1 : zs'[j]? with
          | none => rw [hr1] at hy1; cases hy1
          | some r1 =>
          cases hr2 : as[j]? with
          | none => rw [hr2] at hy2; cases hy2
          | some r2 =>
            rw [hr1] at hy1
            rw [hr2] at hy2
            cases hy1
            cases hy2
            obtain ⟨q1, hq1, tq1⟩ := tb.atQ hr1
            obtain ⟨q2, hq2, tq2⟩ := ta.atQ hr2
            have c1 := cf_get hq1
            have c2 := cf_get hq2
            have jlt : j < qs.length := by
              have := (List.getElem?_eq_some_iff.mp hr2).1
              omega
            have s12 := ss.trans sT
            have qn : q2 ≠ 0 := fun z => by have := posq j jlt; rw [c2, z] at this; exact absurd this (by decide)
            have eqw : q1 / q2 = wq (stripQ B1) qs j := by
              unfold wq
              rw [cf_stripQ, c1, c2]
            refine ⟨T1, _, rfl, SqT.of eT, rfl, _, _, rfl, _, _, rfl, rfl, rfl, ?_⟩
            refine ⟨_, rfl, _, rfl, r1, r2, q1, q2, rfl, tq1.same s12, tq2.same s12, (by rw [← c1, cB1 j jlt]; exact (smw j).2.2), (by rw [← c2]; exact srq j), qn, (by rw [eqw, wS j jlt]; exact (smv j).2.1), fun H3' s3 => ?_⟩
            rw [eqw]
            refine ⟨_, s3 _ _ (sT _ _ eD), ?_, (fun b o e => ?_), ?_⟩
            · rw [List.length_map, List.length_map, tab_len, sizeLine_eq]
              omega
            · rw [upd_ne (ne_of_none e nD')]
              exact s3 _ _ (s12 _ _ e)
            · rw [upd_same, tab_snoc, List.map_append, List.map_append]
              rfl
        · rintro H' ⟨ss, eD⟩
          rw [List.length_map, lb', lB1] at eD
          refine ⟨D', _, rfl, .inl ⟨SqL.of eD, fun tl ntl => ?_⟩⟩
          have etl : upd H' tl (HO.tup ((nr (stripQ B1) qs).map V.int)) tl = some (HO.tup ((nr (stripQ B1) qs).map V.int)) := upd_same
          have sl : Same H' (upd H' tl (HO.tup ((nr (stripQ B1) qs).map V.int))) := same_upd ntl
          show rNeT _ _ _ (upd H' tl (HO.tup ((nr (stripQ B1) qs).map V.int))) _
          generalize upd H' tl (HO.tup ((nr (stripQ B1) qs).map V.int)) = Hz at etl sl ⊢
          refine ⟨_, _, .tup (SqT.of (sl _ _ (ss _ _ e2))) (dts_ints _), .tup (SqT.of etl) (dts_ints _), (eqv_ints _).2.1, (eqv_ints _).2.1, (eqv_ints _).2.2, ?_⟩
          rw [(eqv_ints _).1]
          refine ⟨_, rfl, ?_⟩
          refine iteF ?_
          exact ⟨_, _, _, _, _, _, _, _, _, _, rfl, ((hPd'.same ss).same sl).more (by omega), (rla.same ss).same sl, (sta.same ss).same sl⟩
      · rintro σ H ⟨v4, v5, v6, v7, v8, v9, v10, v11, v12, v13, rfl, hP0, rl0, st0⟩
        obtain ⟨as, el, ta⟩ := rl0
        have la := ta.lenQ
        refine ⟨(by show 1 ≤ sizeLine; decide), fun t0 nt0 => ?_⟩
        have et0 : upd H t0 (HO.tup [V.int 0]) t0 = some (HO.tup [V.int 0]) := upd_same
        have s1 : Same H (upd H t0 (HO.tup [V.int 0])) := same_upd nt0
        try dsimp only [] at nt0 ⊢
        generalize upd H t0 (HO.tup [V.int 0]) = Ha at et0 s1 ⊢
        refine ⟨_, rfl, l, _, rfl, .inl (SqL.of (s1 _ _ el)), ?_⟩
        rw [List.length_map, la]
        refine ⟨t0, ((qs.length : Nat) : Int), [V.int 0], rfl, rfl, SqT.of et0, by simp, by omega, by omega, by decide, fun tz Hb s2 ez => ?_⟩
        rw [Int.toNat_natCast, flat_rep1] at ez
        refine ⟨(by show 1 ≤ sizeLine; decide), fun t1 nt1 => ?_⟩
        have et1 : upd Hb t1 (HO.tup [V.int 1]) t1 = some (HO.tup [V.int 1]) := upd_same
        have s3 : Same Hb (upd Hb t1 (HO.tup [V.int 1])) := same_upd nt1
        try dsimp only [] at nt1 ⊢
        generalize upd Hb t1 (HO.tup [V.int 1]) = Hc at et1 s3 ⊢
        refine ⟨tz, t1, _, _, rfl, rfl, same_sqT s3 ez, SqT.of et1, (by rw [List.length_replicate, sizeLine_eq]; show qs.length + 1 ≤ _; omega), (fun h => absurd (congrArg List.length h) (by rw [List.length_replicate]; show ¬ qs.length = 0; omega)), (fun _ h => by cases h), fun _ _ th nth => ?_⟩
        have eth : upd Hc th (HO.tup (List.replicate qs.length (V.int 0) ++ [V.int 1])) th = some (HO.tup (List.replicate qs.length (V.int 0) ++ [V.int 1])) := upd_same
        have s4 : Same Hc (upd Hc th (HO.tup (List.replicate qs.length (V.int 0) ++ [V.int 1]))) := same_upd nth
        try dsimp only [] at nth ⊢
        generalize upd Hc th (HO.tup (List.replicate qs.length (V.int 0) ++ [V.int 1])) = Hd at eth s4 ⊢
        have s14 := s1.trans (s2.trans (s3.trans s4))
        have rw1 : rowD (.tuple (hiD qs.length)) = some (List.replicate qs.length (0, 1) ++ [(1, 1)]) := hi_row _
        refine poly_made (CR := CR) (d := .tuple (hiD qs.length)) (.tup (SqT.of eth) (dts_hi _)) (fun ds' h => ?_) (fun ps' h => ?_) (fun z => by rw [rw1] at z; cases z)
        · cases h
          unfold hiD
          rw [List.length_append, List.length_replicate]
          show qs.length + 1 ≤ 1000
          omega
        rw [rw1] at h
        cases h
        refine ⟨fun y hy => ?_, fun hi He s5 nhi ph => ?_⟩
        · rcases List.mem_append.mp hy with h | h
          · rw [List.eq_of_mem_replicate h]
            exact Nat.one_lt_pow (by decide) (by decide)
          · rw [List.mem_singleton.mp h]
            exact Nat.one_lt_pow (by decide) (by decide)
        rw [hi_strip] at ph
        have st1 := (st0.same s14).same s5
        have oh : onG (hiQ qs.length) qs = none := by
          unfold onG
          rw [if_pos (by rw [hi_len]; omega)]
        refine ⟨_, rfl, _, rfl, hi, x, hiQ qs.length, qs, rfl, ph, st1, hi_z2 _, fun _ Hf s6 => ⟨rfl, ?_⟩, fun ns' h => by rw [oh] at h; cases h⟩
        refine ⟨_, rfl, ?_⟩
        refine iteT ?_
        -- the polynomial without numbers
        refine ⟨(by show 0 ≤ sizeLine; decide), fun te nte => ?_⟩
        have ete : upd Hf te (HO.tup []) te = some (HO.tup []) := upd_same
        have s7 : Same Hf (upd Hf te (HO.tup [])) := same_upd nte
        try dsimp only [tNil] at nte ⊢
        generalize upd Hf te (HO.tup []) = Hg at ete s7 ⊢
        refine poly_made (CR := CR) (d := .tuple []) (.tup (SqT.of ete) .nil) (fun ds' h => by cases h; decide) (fun ps' h => ?_) (fun z => by cases z)
        cases h
        refine ⟨fun y hy => (by cases hy), fun pz Hh s8 npz hpz => ?_⟩
        have st2 := (st1.same s6).same (s7.trans s8)
        refine ⟨_, rfl, pz, x, [], qs, rfl, hpz, st2, fun j => z2_zero, (fun h => by rw [onG_nil] at h; cases h), fun ns' h t2 Hi s9 e9 => ?_⟩
        rw [onG_nil] at h
        cases h
        refine ⟨(by show 1 ≤ sizeLine; decide), fun t3 nt3 => ?_⟩
        have et3 : upd Hi t3 (HO.tup [V.int 0]) t3 = some (HO.tup [V.int 0]) := upd_same
        have s10 : Same Hi (upd Hi t3 (HO.tup [V.int 0])) := same_upd nt3
        try dsimp only [] at nt3 ⊢
        generalize upd Hi t3 (HO.tup [V.int 0]) = Hj at et3 s10 ⊢
        have el2 := s10 _ _ (s9 _ _ (s8 _ _ (s7 _ _ (s6 _ _ (s5 _ _ (s14 _ _ el))))))
        refine ⟨_, rfl, l, _, rfl, .inl (SqL.of el2), ?_⟩
        rw [List.length_map, la]
        refine ⟨t3, ((qs.length : Nat) : Int), [V.int 0], rfl, rfl, SqT.of et3, by simp, by omega, by omega, by decide, fun tz2 Hk s11 ez2 => ?_⟩
        rw [Int.toNat_natCast, flat_rep1] at ez2
        have em : List.replicate qs.length (V.int 0) = (List.replicate qs.length (0 : Int)).map V.int := by rw [List.map_replicate]
        rw [em] at ez2
        refine ⟨_, _, .tup (SqT.of (s11 _ _ (s10 _ _ e9))) (dts_ints _), .tup ez2 (dts_ints _), (eqv_ints _).2.1, (eqv_ints _).2.1, (eqv_ints _).2.2, ?_⟩
        rw [(eqv_ints _).1]
        exact kend _

end
end Vf

set_option maxRecDepth 100000
set_option maxHeartbeats 8000000
namespace Vf
open PySem PySem.Spec PyProof.Rows L2
/-! ### what the top has written -/
def tyNames : List String := ["NoneType", "bool", "int", "str", "list", "tuple", "dict"]
def polyB (K : PySem.W.Frag) (CP : Addr) : Bool :=
  PySem.W.plainGet K CP Str.empty && (PySem.W.hasDictIn K CP && (PySem.W.plainOver K CP && (decide (PySem.W.findIn K (.ref CP) "__setattr__" = some (some (.builtin "object.__setattr__"))) && (decide (PySem.W.findIn K (.ref CP) "numbers" = some none) &&
  (decide (PySem.W.findIn K (.ref CP) "__class__" = some (some (.builtin "object.__class__"))) && (decide (PySem.W.specialIn K (.builtin "object.__class__") "__get__" = some (some (.builtin "getset_descriptor.__get__"))) &&
  (decide (PySem.W.takesIn K (.builtin "object.__class__") = some true) && (decide (PySem.W.mroIn K CP (.type "object") = some true) && (tyNames.all (fun t => decide (PySem.W.kitOne K (.type t) (.ref CP) = some false) && PySem.W.notFirst K CP (.type t)) &&
  (PySem.W.notFirst K CP (.ref CP) && (PySem.W.makesIn K CP && PySem.W.keepIn K (.ref CP))))))))))))
theorem tyD_mem (d : PyData) : tyD d ∈ tyNames := by
  cases d <;> simp [tyD, tyNames]
theorem polyC {K : PySem.W.Frag} {mg : Str → Option Value} {CP : Addr} (m : mg "Poly" = some (.ref CP)) (h : polyB K CP = true) : PoC K mg CP ∧ PySem.W.makesIn K CP = true ∧ PySem.W.keepIn K (.ref CP) = true := by
  obtain ⟨h1, h⟩ := Bool.and_eq_true_iff.mp h
  obtain ⟨h2, h⟩ := Bool.and_eq_true_iff.mp h
  obtain ⟨h3, h⟩ := Bool.and_eq_true_iff.mp h
  obtain ⟨h4, h⟩ := Bool.and_eq_true_iff.mp h
  obtain ⟨h5, h⟩ := Bool.and_eq_true_iff.mp h
  obtain ⟨h6, h⟩ := Bool.and_eq_true_iff.mp h
  obtain ⟨h7, h⟩ := Bool.and_eq_true_iff.mp h
  obtain ⟨h8, h⟩ := Bool.and_eq_true_iff.mp h
  obtain ⟨h9, h⟩ := Bool.and_eq_true_iff.mp h
  obtain ⟨h10, h⟩ := Bool.and_eq_true_iff.mp h
  obtain ⟨h11, h⟩ := Bool.and_eq_true_iff.mp h
  obtain ⟨h12, h13⟩ := Bool.and_eq_true_iff.mp h
  have z := fun d : PyData => Bool.and_eq_true_iff.mp (List.all_eq_true.mp h10 (tyD d) (tyD_mem d))
  exact ⟨⟨m, ⟨h1, h2, h3, of_decide_eq_true h4⟩, (of_decide_eq_true h5 : PySem.W.findIn K (.ref CP) "numbers" = some none), of_decide_eq_true h6, of_decide_eq_true h7, of_decide_eq_true h8, of_decide_eq_true h9, fun d => of_decide_eq_true (z d).1, h11, fun d => (z d).2⟩, h12, h13⟩
theorem fn_of_ty {K : PySem.W.Frag} {f : Addr} (h : PySem.W.typeIn K (.ref f) = some (.type "function")) : PySem.W.isFn K (.ref f) = true := by
  unfold PySem.W.isFn
  rw [h]
  decide +kernel
theorem all_mk {l : PySem.W.OpenLaw} {w : World} {K : PySem.W.Frag} {h : Heap} {mg : Str → Option Value} {fa : Addr}
    {C0 C1 i0 i1 f0 f1 f2 f3 f4 f5 f6 f7 f8 f9 f10 f11 f12 f13 f14 f15 f16 f17 f18 f19 f20 f21 f22 f23 f24 f25 f26 f27 f28 f29 Cg g0 g1 g2 : Addr}
    {ocf0 kVf0 dcf0 pmf0 cdf0 ctf0 : Value} {odf0 anf0 : Option Addr} {slf0 : Array (Option Value)}
    {ocf1 kVf1 dcf1 pmf1 cdf1 ctf1 : Value} {odf1 anf1 : Option Addr} {slf1 : Array (Option Value)}
    {ocf2 kVf2 dcf2 pmf2 cdf2 ctf2 : Value} {odf2 anf2 : Option Addr} {slf2 : Array (Option Value)}
    {ocf3 kVf3 dcf3 pmf3 cdf3 ctf3 : Value} {odf3 anf3 : Option Addr} {slf3 : Array (Option Value)}
    {ocf4 kVf4 dcf4 pmf4 cdf4 ctf4 : Value} {odf4 anf4 : Option Addr} {slf4 : Array (Option Value)}
    {ocf5 kVf5 dcf5 pmf5 cdf5 ctf5 : Value} {odf5 anf5 : Option Addr} {slf5 : Array (Option Value)}
    {ocf6 kVf6 dcf6 pmf6 cdf6 ctf6 : Value} {odf6 anf6 : Option Addr} {slf6 : Array (Option Value)}
    {ocf7 kVf7 dcf7 pmf7 cdf7 ctf7 : Value} {odf7 anf7 : Option Addr} {slf7 : Array (Option Value)}
    {ocf8 kVf8 dcf8 pmf8 cdf8 ctf8 : Value} {odf8 anf8 : Option Addr} {slf8 : Array (Option Value)}
    {ocf9 kVf9 dcf9 pmf9 cdf9 ctf9 : Value} {odf9 anf9 : Option Addr} {slf9 : Array (Option Value)}
    {ocf10 kVf10 dcf10 pmf10 cdf10 ctf10 : Value} {odf10 anf10 : Option Addr} {slf10 : Array (Option Value)}
    {ocf11 kVf11 dcf11 pmf11 cdf11 ctf11 : Value} {odf11 anf11 : Option Addr} {slf11 : Array (Option Value)}
    {ocf12 kVf12 dcf12 pmf12 cdf12 ctf12 : Value} {odf12 anf12 : Option Addr} {slf12 : Array (Option Value)}
    {ocf13 kVf13 dcf13 pmf13 cdf13 ctf13 : Value} {odf13 anf13 : Option Addr} {slf13 : Array (Option Value)}
    {ocf14 kVf14 dcf14 pmf14 cdf14 ctf14 : Value} {odf14 anf14 : Option Addr} {slf14 : Array (Option Value)}
    {ocf15 kVf15 dcf15 pmf15 cdf15 ctf15 : Value} {odf15 anf15 : Option Addr} {slf15 : Array (Option Value)}
    {ocf16 kVf16 dcf16 pmf16 cdf16 ctf16 : Value} {odf16 anf16 : Option Addr} {slf16 : Array (Option Value)}
    {ocf17 kVf17 dcf17 pmf17 cdf17 ctf17 : Value} {odf17 anf17 : Option Addr} {slf17 : Array (Option Value)}
    {ocf18 kVf18 dcf18 pmf18 cdf18 ctf18 : Value} {odf18 anf18 : Option Addr} {slf18 : Array (Option Value)}
    {ocf19 kVf19 dcf19 pmf19 cdf19 ctf19 : Value} {odf19 anf19 : Option Addr} {slf19 : Array (Option Value)}
    {ocf20 kVf20 dcf20 pmf20 cdf20 ctf20 : Value} {odf20 anf20 : Option Addr} {slf20 : Array (Option Value)}
    {ocf21 kVf21 dcf21 pmf21 cdf21 ctf21 : Value} {odf21 anf21 : Option Addr} {slf21 : Array (Option Value)}
    {ocf22 kVf22 dcf22 pmf22 cdf22 ctf22 : Value} {odf22 anf22 : Option Addr} {slf22 : Array (Option Value)}
    {ocf23 kVf23 dcf23 pmf23 cdf23 ctf23 : Value} {odf23 anf23 : Option Addr} {slf23 : Array (Option Value)}
    {ocf24 kVf24 dcf24 pmf24 cdf24 ctf24 : Value} {odf24 anf24 : Option Addr} {slf24 : Array (Option Value)}
    {ocf25 kVf25 dcf25 pmf25 cdf25 ctf25 : Value} {odf25 anf25 : Option Addr} {slf25 : Array (Option Value)}
    {ocf26 kVf26 dcf26 pmf26 cdf26 ctf26 : Value} {odf26 anf26 : Option Addr} {slf26 : Array (Option Value)}
    {ocf27 kVf27 dcf27 pmf27 cdf27 ctf27 : Value} {odf27 anf27 : Option Addr} {slf27 : Array (Option Value)}
    {ocf28 kVf28 dcf28 pmf28 cdf28 ctf28 : Value} {odf28 anf28 : Option Addr} {slf28 : Array (Option Value)}
    {ocf29 kVf29 dcf29 pmf29 cdf29 ctf29 : Value} {odf29 anf29 : Option Addr} {slf29 : Array (Option Value)}
    {tkMOST_STEPS : Tok}
    {oci0 kVi0 dci0 pmi0 cdi0 cti0 : Value} {odi0 ani0 : Option Addr} {sli0 : Array (Option Value)}
    {nm0 qn0 : Str} {N0 : Addr} {bs0 bm0 sub0 : List Value} {sn0 : List Str} {ab0 : Bool} {col0 : Option Bool} {dd0 : Option Addr} {ka0 kb0 kc0 kd0 ke0 : Option Value}
    {oci1 kVi1 dci1 pmi1 cdi1 cti1 : Value} {odi1 ani1 : Option Addr} {sli1 : Array (Option Value)}
    {nm1 qn1 : Str} {N1 : Addr} {bs1 bm1 sub1 : List Value} {sn1 : List Str} {ab1 : Bool} {col1 : Option Bool} {dd1 : Option Addr} {ka1 kb1 kc1 kd1 ke1 : Option Value}
    {ocg0 kVg0 dcg0 pmg0 cdg0 ctg0 : Value} {odg0 ang0 : Option Addr} {slg0 : Array (Option Value)}
    {ocg1 kVg1 dcg1 pmg1 cdg1 ctg1 : Value} {odg1 ang1 : Option Addr} {slg1 : Array (Option Value)}
    {ocg2 kVg2 dcg2 pmg2 cdg2 ctg2 : Value} {odg2 ang2 : Option Addr} {slg2 : Array (Option Value)}
    (X : K.In h) (G : h.Ns mainGlobals mg) (hfa : mg "law" = some (.ref fa))
    (a0 : PySem.W.nsIn K mainGlobals "_law_pen" = some (some (.ref f0)))
    (l0 : K.lookup f0 = some ⟨ocf0, odf0, .func (PySem.W.fnOf "_law_pen" "_law_pen" (defArgs sPen) (defBody sPen) (defScope sPen) .none kVf0 dcf0 pmf0 anf0 cdf0 ctf0), slf0⟩)
    (c0 : PySem.W.codeIn K cdf0 "_law_pen" = true)
    (k0 : PySem.W.keepIn K (.ref f0) = true)
    (a1 : PySem.W.nsIn K mainGlobals "_law_draw" = some (some (.ref f1)))
    (l1 : K.lookup f1 = some ⟨ocf1, odf1, .func (PySem.W.fnOf "_law_draw" "_law_draw" (defArgs sDraw) (defBody sDraw) (defScope sDraw) .none kVf1 dcf1 pmf1 anf1 cdf1 ctf1), slf1⟩)
    (c1 : PySem.W.codeIn K cdf1 "_law_draw" = true)
    (k1 : PySem.W.keepIn K (.ref f1) = true)
    (a2 : PySem.W.nsIn K mainGlobals "_law_pick" = some (some (.ref f2)))
    (l2 : K.lookup f2 = some ⟨ocf2, odf2, .func (PySem.W.fnOf "_law_pick" "_law_pick" (defArgs sPick) (defBody sPick) (defScope sPick) .none kVf2 dcf2 pmf2 anf2 cdf2 ctf2), slf2⟩)
    (c2 : PySem.W.codeIn K cdf2 "_law_pick" = true)
    (k2 : PySem.W.keepIn K (.ref f2) = true)
    (a3 : PySem.W.nsIn K mainGlobals "is_whole" = some (some (.ref f3)))
    (l3 : K.lookup f3 = some ⟨ocf3, odf3, .func (PySem.W.fnOf "is_whole" "is_whole" (defArgs sIsWhole) (defBody sIsWhole) (defScope sIsWhole) .none kVf3 dcf3 pmf3 anf3 cdf3 ctf3), slf3⟩)
    (c3 : PySem.W.codeIn K cdf3 "is_whole" = true)
    (k3 : PySem.W.keepIn K (.ref f3) = true)
    (a4 : PySem.W.nsIn K mainGlobals "is_ratio" = some (some (.ref f4)))
    (l4 : K.lookup f4 = some ⟨ocf4, odf4, .func (PySem.W.fnOf "is_ratio" "is_ratio" (defArgs sIsRatio) (defBody sIsRatio) (defScope sIsRatio) .none kVf4 dcf4 pmf4 anf4 cdf4 ctf4), slf4⟩)
    (c4 : PySem.W.codeIn K cdf4 "is_ratio" = true)
    (k4 : PySem.W.keepIn K (.ref f4) = true)
    (a5 : PySem.W.nsIn K mainGlobals "is_ratio_row" = some (some (.ref f5)))
    (l5 : K.lookup f5 = some ⟨ocf5, odf5, .func (PySem.W.fnOf "is_ratio_row" "is_ratio_row" (defArgs sIsRow) (defBody sIsRow) (defScope sIsRow) .none kVf5 dcf5 pmf5 anf5 cdf5 ctf5), slf5⟩)
    (c5 : PySem.W.codeIn K cdf5 "is_ratio_row" = true)
    (k5 : PySem.W.keepIn K (.ref f5) = true)
    (a6 : PySem.W.nsIn K mainGlobals "lowest" = some (some (.ref f6)))
    (l6 : K.lookup f6 = some ⟨ocf6, odf6, .func (PySem.W.fnOf "lowest" "lowest" (defArgs sLowest) (defBody sLowest) (defScope sLowest) .none kVf6 dcf6 pmf6 anf6 cdf6 ctf6), slf6⟩)
    (c6 : PySem.W.codeIn K cdf6 "lowest" = true)
    (k6 : PySem.W.keepIn K (.ref f6) = true)
    (a7 : PySem.W.nsIn K mainGlobals "parts_of" = some (some (.ref f7)))
    (l7 : K.lookup f7 = some ⟨ocf7, odf7, .func (PySem.W.fnOf "parts_of" "parts_of" (defArgs sParts) (defBody sParts) (defScope sParts) .none kVf7 dcf7 pmf7 anf7 cdf7 ctf7), slf7⟩)
    (c7 : PySem.W.codeIn K cdf7 "parts_of" = true)
    (k7 : PySem.W.keepIn K (.ref f7) = true)
    (a8 : PySem.W.nsIn K mainGlobals "told" = some (some (.ref f8)))
    (l8 : K.lookup f8 = some ⟨ocf8, odf8, .func (PySem.W.fnOf "told" "told" (defArgs sTold) (defBody sTold) (defScope sTold) .none kVf8 dcf8 pmf8 anf8 cdf8 ctf8), slf8⟩)
    (c8 : PySem.W.codeIn K cdf8 "told" = true)
    (k8 : PySem.W.keepIn K (.ref f8) = true)
    (a9 : PySem.W.nsIn K mainGlobals "times" = some (some (.ref f9)))
    (l9 : K.lookup f9 = some ⟨ocf9, odf9, .func (PySem.W.fnOf "times" "times" (defArgs sTimes) (defBody sTimes) (defScope sTimes) .none kVf9 dcf9 pmf9 anf9 cdf9 ctf9), slf9⟩)
    (c9 : PySem.W.codeIn K cdf9 "times" = true)
    (k9 : PySem.W.keepIn K (.ref f9) = true)
    (a10 : PySem.W.nsIn K mainGlobals "share" = some (some (.ref f10)))
    (l10 : K.lookup f10 = some ⟨ocf10, odf10, .func (PySem.W.fnOf "share" "share" (defArgs sShare) (defBody sShare) (defScope sShare) .none kVf10 dcf10 pmf10 anf10 cdf10 ctf10), slf10⟩)
    (c10 : PySem.W.codeIn K cdf10 "share" = true)
    (k10 : PySem.W.keepIn K (.ref f10) = true)
    (a11 : PySem.W.nsIn K mainGlobals "lower" = some (some (.ref f11)))
    (l11 : K.lookup f11 = some ⟨ocf11, odf11, .func (PySem.W.fnOf "lower" "lower" (defArgs sLower) (defBody sLower) (defScope sLower) .none kVf11 dcf11 pmf11 anf11 cdf11 ctf11), slf11⟩)
    (c11 : PySem.W.codeIn K cdf11 "lower" = true)
    (k11 : PySem.W.keepIn K (.ref f11) = true)
    (a12 : PySem.W.nsIn K mainGlobals "nearest_whole" = some (some (.ref f12)))
    (l12 : K.lookup f12 = some ⟨ocf12, odf12, .func (PySem.W.fnOf "nearest_whole" "nearest_whole" (defArgs sNear) (defBody sNear) (defScope sNear) .none kVf12 dcf12 pmf12 anf12 cdf12 ctf12), slf12⟩)
    (c12 : PySem.W.codeIn K cdf12 "nearest_whole" = true)
    (k12 : PySem.W.keepIn K (.ref f12) = true)
    (a13 : PySem.W.nsIn K mainGlobals "number_of" = some (some (.ref f13)))
    (l13 : K.lookup f13 = some ⟨ocf13, odf13, .func (PySem.W.fnOf "number_of" "number_of" (defArgs sNumOf) (defBody sNumOf) (defScope sNumOf) .none kVf13 dcf13 pmf13 anf13 cdf13 ctf13), slf13⟩)
    (c13 : PySem.W.codeIn K cdf13 "number_of" = true)
    (k13 : PySem.W.keepIn K (.ref f13) = true)
    (a14 : PySem.W.nsIn K mainGlobals "need_steps" = some (some (.ref f14)))
    (l14 : K.lookup f14 = some ⟨ocf14, odf14, .func (PySem.W.fnOf "need_steps" "need_steps" (defArgs sNeed) (defBody sNeed) (defScope sNeed) .none kVf14 dcf14 pmf14 anf14 cdf14 ctf14), slf14⟩)
    (c14 : PySem.W.codeIn K cdf14 "need_steps" = true)
    (k14 : PySem.W.keepIn K (.ref f14) = true)
    (a15 : PySem.W.nsIn K mainGlobals "on_grid" = some (some (.ref f15)))
    (l15 : K.lookup f15 = some ⟨ocf15, odf15, .func (PySem.W.fnOf "on_grid" "on_grid" (defArgs sOnGrid) (defBody sOnGrid) (defScope sOnGrid) .none kVf15 dcf15 pmf15 anf15 cdf15 ctf15), slf15⟩)
    (c15 : PySem.W.codeIn K cdf15 "on_grid" = true)
    (k15 : PySem.W.keepIn K (.ref f15) = true)
    (a16 : PySem.W.nsIn K mainGlobals "grid_poly" = some (some (.ref f16)))
    (l16 : K.lookup f16 = some ⟨ocf16, odf16, .func (PySem.W.fnOf "grid_poly" "grid_poly" (defArgs sGPoly) (defBody sGPoly) (defScope sGPoly) .none kVf16 dcf16 pmf16 anf16 cdf16 ctf16), slf16⟩)
    (c16 : PySem.W.codeIn K cdf16 "grid_poly" = true)
    (k16 : PySem.W.keepIn K (.ref f16) = true)
    (a17 : PySem.W.nsIn K mainGlobals "nearest_row" = some (some (.ref f17)))
    (l17 : K.lookup f17 = some ⟨ocf17, odf17, .func (PySem.W.fnOf "nearest_row" "nearest_row" (defArgs sNRow) (defBody sNRow) (defScope sNRow) .none kVf17 dcf17 pmf17 anf17 cdf17 ctf17), slf17⟩)
    (c17 : PySem.W.codeIn K cdf17 "nearest_row" = true)
    (k17 : PySem.W.keepIn K (.ref f17) = true)
    (a18 : PySem.W.nsIn K mainGlobals "_law_gcd" = some (some (.ref f18)))
    (l18 : K.lookup f18 = some ⟨ocf18, odf18, .func (PySem.W.fnOf "_law_gcd" "_law_gcd" (defArgs sLGcd) (defBody sLGcd) (defScope sLGcd) .none kVf18 dcf18 pmf18 anf18 cdf18 ctf18), slf18⟩)
    (c18 : PySem.W.codeIn K cdf18 "_law_gcd" = true)
    (k18 : PySem.W.keepIn K (.ref f18) = true)
    (a19 : PySem.W.nsIn K mainGlobals "_law_q" = some (some (.ref f19)))
    (l19 : K.lookup f19 = some ⟨ocf19, odf19, .func (PySem.W.fnOf "_law_q" "_law_q" (defArgs sLQ) (defBody sLQ) (defScope sLQ) .none kVf19 dcf19 pmf19 anf19 cdf19 ctf19), slf19⟩)
    (c19 : PySem.W.codeIn K cdf19 "_law_q" = true)
    (k19 : PySem.W.keepIn K (.ref f19) = true)
    (a20 : PySem.W.nsIn K mainGlobals "_law_plus" = some (some (.ref f20)))
    (l20 : K.lookup f20 = some ⟨ocf20, odf20, .func (PySem.W.fnOf "_law_plus" "_law_plus" (defArgs sLPlus) (defBody sLPlus) (defScope sLPlus) .none kVf20 dcf20 pmf20 anf20 cdf20 ctf20), slf20⟩)
    (c20 : PySem.W.codeIn K cdf20 "_law_plus" = true)
    (k20 : PySem.W.keepIn K (.ref f20) = true)
    (a21 : PySem.W.nsIn K mainGlobals "_law_times" = some (some (.ref f21)))
    (l21 : K.lookup f21 = some ⟨ocf21, odf21, .func (PySem.W.fnOf "_law_times" "_law_times" (defArgs sLTimes) (defBody sLTimes) (defScope sLTimes) .none kVf21 dcf21 pmf21 anf21 cdf21 ctf21), slf21⟩)
    (c21 : PySem.W.codeIn K cdf21 "_law_times" = true)
    (k21 : PySem.W.keepIn K (.ref f21) = true)
    (a22 : PySem.W.nsIn K mainGlobals "_law_share" = some (some (.ref f22)))
    (l22 : K.lookup f22 = some ⟨ocf22, odf22, .func (PySem.W.fnOf "_law_share" "_law_share" (defArgs sLShare) (defBody sLShare) (defScope sLShare) .none kVf22 dcf22 pmf22 anf22 cdf22 ctf22), slf22⟩)
    (c22 : PySem.W.codeIn K cdf22 "_law_share" = true)
    (k22 : PySem.W.keepIn K (.ref f22) = true)
    (a23 : PySem.W.nsIn K mainGlobals "_law_poly" = some (some (.ref f23)))
    (l23 : K.lookup f23 = some ⟨ocf23, odf23, .func (PySem.W.fnOf "_law_poly" "_law_poly" (defArgs sLPoly) (defBody sLPoly) (defScope sLPoly) .none kVf23 dcf23 pmf23 anf23 cdf23 ctf23), slf23⟩)
    (c23 : PySem.W.codeIn K cdf23 "_law_poly" = true)
    (k23 : PySem.W.keepIn K (.ref f23) = true)
    (a24 : PySem.W.nsIn K mainGlobals "_law_passed" = some (some (.ref f24)))
    (l24 : K.lookup f24 = some ⟨ocf24, odf24, .func (PySem.W.fnOf "_law_passed" "_law_passed" (defArgs sPassed) (defBody sPassed) (defScope sPassed) .none kVf24 dcf24 pmf24 anf24 cdf24 ctf24), slf24⟩)
    (c24 : PySem.W.codeIn K cdf24 "_law_passed" = true)
    (k24 : PySem.W.keepIn K (.ref f24) = true)
    (a25 : PySem.W.nsIn K mainGlobals "_law_made_poly" = some (some (.ref f25)))
    (l25 : K.lookup f25 = some ⟨ocf25, odf25, .func (PySem.W.fnOf "_law_made_poly" "_law_made_poly" (defArgs sMade) (defBody sMade) (defScope sMade) .none kVf25 dcf25 pmf25 anf25 cdf25 ctf25), slf25⟩)
    (c25 : PySem.W.codeIn K cdf25 "_law_made_poly" = true)
    (k25 : PySem.W.keepIn K (.ref f25) = true)
    (a26 : PySem.W.nsIn K mainGlobals "_law_grid" = some (some (.ref f26)))
    (l26 : K.lookup f26 = some ⟨ocf26, odf26, .func (PySem.W.fnOf "_law_grid" "_law_grid" (defArgs sLGrid) (defBody sLGrid) (defScope sLGrid) .none kVf26 dcf26 pmf26 anf26 cdf26 ctf26), slf26⟩)
    (c26 : PySem.W.codeIn K cdf26 "_law_grid" = true)
    (k26 : PySem.W.keepIn K (.ref f26) = true)
    (a27 : PySem.W.nsIn K mainGlobals "_law_row_poly" = some (some (.ref f27)))
    (l27 : K.lookup f27 = some ⟨ocf27, odf27, .func (PySem.W.fnOf "_law_row_poly" "_law_row_poly" (defArgs sLRP) (defBody sLRP) (defScope sLRP) .none kVf27 dcf27 pmf27 anf27 cdf27 ctf27), slf27⟩)
    (c27 : PySem.W.codeIn K cdf27 "_law_row_poly" = true)
    (k27 : PySem.W.keepIn K (.ref f27) = true)
    (a28 : PySem.W.nsIn K mainGlobals "_law_nearest" = some (some (.ref f28)))
    (l28 : K.lookup f28 = some ⟨ocf28, odf28, .func (PySem.W.fnOf "_law_nearest" "_law_nearest" (defArgs sLNear) (defBody sLNear) (defScope sLNear) .none kVf28 dcf28 pmf28 anf28 cdf28 ctf28), slf28⟩)
    (c28 : PySem.W.codeIn K cdf28 "_law_nearest" = true)
    (k28 : PySem.W.keepIn K (.ref f28) = true)
    (a29 : PySem.W.nsIn K mainGlobals "law" = some (some (.ref f29)))
    (l29 : K.lookup f29 = some ⟨ocf29, odf29, .func (PySem.W.fnOf "law" "law" (defArgs sLaw) (defBody sLaw) (defScope sLaw) .none kVf29 dcf29 pmf29 anf29 cdf29 ctf29), slf29⟩)
    (c29 : PySem.W.codeIn K cdf29 "law" = true)
    (k29 : PySem.W.keepIn K (.ref f29) = true)
    (aggcd : PySem.W.nsIn K mainGlobals "gcd" = some (some (.builtin "math.gcd")))
    (acMOST_STEPS : PySem.W.nsIn K mainGlobals "MOST_STEPS" = some (some (.int 5 tkMOST_STEPS)))
    (m0 : PySem.W.nsIn K mainGlobals "BadNumber" = some (some (.ref C0)))
    (ei0 : PySem.W.findIn K (.ref C0) "__init__" = some (some (.ref i0)))
    (ti0 : PySem.W.typeIn K (.ref i0) = some (.type "function"))
    (li0 : K.lookup i0 = some ⟨oci0, odi0, .func (PySem.W.fnOf "__init__" "BadNumber.__init__" (defArgs (inClass (topS 4) 0)) (defBody (inClass (topS 4) 0)) (defScope (inClass (topS 4) 0)) .none kVi0 dci0 pmi0 ani0 cdi0 cti0), sli0⟩)
    (ci0 : PySem.W.codeIn K cdi0 "BadNumber.__init__" = true)
    (ki0 : PySem.W.keepIn K (.ref i0) = true)
    (lc0 : K.lookup C0 = some (excClassObj nm0 qn0 C0 N0 bs0 bm0 true sn0 sub0 ab0 col0 dd0 ka0 kb0 kc0 kd0 ke0 "ValueError.__new__"))
    (lb0 : PySem.HandSPX.refsVE bm0 = true)
    (big0 : (oexB K C0 && decide (PySem.W.findIn K (.ref C0) "what" = some none) && decide (PySem.W.findIn K (.ref C0) "number" = some none)) = true)
    (m1 : PySem.W.nsIn K mainGlobals "BadRow" = some (some (.ref C1)))
    (ei1 : PySem.W.findIn K (.ref C1) "__init__" = some (some (.ref i1)))
    (ti1 : PySem.W.typeIn K (.ref i1) = some (.type "function"))
    (li1 : K.lookup i1 = some ⟨oci1, odi1, .func (PySem.W.fnOf "__init__" "BadRow.__init__" (defArgs (inClass (topS 5) 0)) (defBody (inClass (topS 5) 0)) (defScope (inClass (topS 5) 0)) .none kVi1 dci1 pmi1 ani1 cdi1 cti1), sli1⟩)
    (ci1 : PySem.W.codeIn K cdi1 "BadRow.__init__" = true)
    (ki1 : PySem.W.keepIn K (.ref i1) = true)
    (lc1 : K.lookup C1 = some (excClassObj nm1 qn1 C1 N1 bs1 bm1 true sn1 sub1 ab1 col1 dd1 ka1 kb1 kc1 kd1 ke1 "ValueError.__new__"))
    (lb1 : PySem.HandSPX.refsVE bm1 = true)
    (big1 : (oexB K C1 && decide (PySem.W.findIn K (.ref C1) "row" = some none)) = true)
    (mcg : PySem.W.nsIn K mainGlobals "Poly" = some (some (.ref Cg)))
    (eg0 : PySem.W.findIn K (.ref Cg) "__init__" = some (some (.ref g0)))
    (tg0 : PySem.W.typeIn K (.ref g0) = some (.type "function"))
    (lg0 : K.lookup g0 = some ⟨ocg0, odg0, .func (PySem.W.fnOf "__init__" "Poly.__init__" (defArgs (inClass (topS 23) 0)) (defBody (inClass (topS 23) 0)) (defScope (inClass (topS 23) 0)) .none kVg0 dcg0 pmg0 ang0 cdg0 ctg0), slg0⟩)
    (cg0 : PySem.W.codeIn K cdg0 "Poly.__init__" = true)
    (kg0 : PySem.W.keepIn K (.ref g0) = true)
    (eg1 : PySem.W.findIn K (.ref Cg) "__eq__" = some (some (.ref g1)))
    (tg1 : PySem.W.typeIn K (.ref g1) = some (.type "function"))
    (lg1 : K.lookup g1 = some ⟨ocg1, odg1, .func (PySem.W.fnOf "__eq__" "Poly.__eq__" (defArgs (inClass (topS 23) 1)) (defBody (inClass (topS 23) 1)) (defScope (inClass (topS 23) 1)) .none kVg1 dcg1 pmg1 ang1 cdg1 ctg1), slg1⟩)
    (cg1 : PySem.W.codeIn K cdg1 "Poly.__eq__" = true)
    (kg1 : PySem.W.keepIn K (.ref g1) = true)
    (eg2 : PySem.W.findIn K (.ref Cg) "degree" = some (some (.ref g2)))
    (tg2 : PySem.W.typeIn K (.ref g2) = some (.type "function"))
    (lg2 : K.lookup g2 = some ⟨ocg2, odg2, .func (PySem.W.fnOf "degree" "Poly.degree" (defArgs (inClass (topS 23) 9)) (defBody (inClass (topS 23) 9)) (defScope (inClass (topS 23) 9)) .none kVg2 dcg2 pmg2 ang2 cdg2 ctg2), slg2⟩)
    (cg2 : PySem.W.codeIn K cdg2 "Poly.degree" = true)
    (kg2 : PySem.W.keepIn K (.ref g2) = true)
    (zint : PySem.W.nsIn K mainGlobals "int" = some none)
    (zlist : PySem.W.nsIn K mainGlobals "list" = some none)
    (zlen : PySem.W.nsIn K mainGlobals "len" = some none)
    (zrange : PySem.W.nsIn K mainGlobals "range" = some none)
    (zstr : PySem.W.nsIn K mainGlobals "str" = some none)
    (zisinstance : PySem.W.nsIn K mainGlobals "isinstance" = some none)
    (zbool : PySem.W.nsIn K mainGlobals "bool" = some none)
    (ztuple : PySem.W.nsIn K mainGlobals "tuple" = some none)
    (zabs : PySem.W.nsIn K mainGlobals "abs" = some none)
    (zall : PySem.W.nsIn K mainGlobals "all" = some none)
    (zzip : PySem.W.nsIn K mainGlobals "zip" = some none)
    (zenumerate : PySem.W.nsIn K mainGlobals "enumerate" = some none)
    (bigP : polyB K Cg = true) :
    LawG l w K CX0 9 63 "_law_script" mg fa h := by
  have e := hfa.symm.trans (PySem.W.mg_of X G a29)
  cases e
  have mgo : ∀ {x : Str} {a : Value}, PySem.W.nsIn K mainGlobals x = some (some a) → mg x = some a := fun z => PySem.W.mg_of X G z
  have mgn : ∀ {x : Str}, PySem.W.nsIn K mainGlobals x = some none → mg x = none := fun z => PySem.W.mg_none_of X G z
  have F0 := fun_mk (st := sPen) l0 c0 k0
  have F1 := fun_mk (st := sDraw) l1 c1 k1
  have F2 := fun_mk (st := sPick) l2 c2 k2
  have F3 := fun_mk (st := sIsWhole) l3 c3 k3
  have F4 := fun_mk (st := sIsRatio) l4 c4 k4
  have F5 := fun_mk (st := sIsRow) l5 c5 k5
  have F6 := fun_mk (st := sLowest) l6 c6 k6
  have F7 := fun_mk (st := sParts) l7 c7 k7
  have F8 := fun_mk (st := sTold) l8 c8 k8
  have F9 := fun_mk (st := sTimes) l9 c9 k9
  have F10 := fun_mk (st := sShare) l10 c10 k10
  have F11 := fun_mk (st := sLower) l11 c11 k11
  have F12 := fun_mk (st := sNear) l12 c12 k12
  have F13 := fun_mk (st := sNumOf) l13 c13 k13
  have F14 := fun_mk (st := sNeed) l14 c14 k14
  have F15 := fun_mk (st := sOnGrid) l15 c15 k15
  have F16 := fun_mk (st := sGPoly) l16 c16 k16
  have F17 := fun_mk (st := sNRow) l17 c17 k17
  have F18 := fun_mk (st := sLGcd) l18 c18 k18
  have F19 := fun_mk (st := sLQ) l19 c19 k19
  have F20 := fun_mk (st := sLPlus) l20 c20 k20
  have F21 := fun_mk (st := sLTimes) l21 c21 k21
  have F22 := fun_mk (st := sLShare) l22 c22 k22
  have F23 := fun_mk (st := sLPoly) l23 c23 k23
  have F24 := fun_mk (st := sPassed) l24 c24 k24
  have F25 := fun_mk (st := sMade) l25 c25 k25
  have F26 := fun_mk (st := sLGrid) l26 c26 k26
  have F27 := fun_mk (st := sLRP) l27 c27 k27
  have F28 := fun_mk (st := sLNear) l28 c28 k28
  have F29 := fun_mk (st := sLaw) l29 c29 k29
  have b0 := F0.binds (ps := ["_law_script"]) fun _ _ _ _ _ _ us hl => match us, hl with | [_], _ => rfl
  have b1 := F1.binds (ps := ["_law_pen_here", "_law_many"]) fun _ _ _ _ _ _ us hl => match us, hl with | [_, _], _ => rfl
  have b2 := F2.binds (ps := ["_law_pen_here", "_law_some"]) fun _ _ _ _ _ _ us hl => match us, hl with | [_, _], _ => rfl
  have b3 := F3.binds (ps := ["value"]) fun _ _ _ _ _ _ us hl => match us, hl with | [_], _ => rfl
  have b4 := F4.binds (ps := ["value"]) fun _ _ _ _ _ _ us hl => match us, hl with | [_], _ => rfl
  have b5 := F5.binds (ps := ["value"]) fun _ _ _ _ _ _ us hl => match us, hl with | [_], _ => rfl
  have b6 := F6.binds (ps := ["top", "bottom"]) fun _ _ _ _ _ _ us hl => match us, hl with | [_, _], _ => rfl
  have b7 := F7.binds (ps := ["value", "what"]) fun _ _ _ _ _ _ us hl => match us, hl with | [_, _], _ => rfl
  have b8 := F8.binds (ps := ["value", "what"]) fun _ _ _ _ _ _ us hl => match us, hl with | [_, _], _ => rfl
  have b9 := F9.binds (ps := ["one", "other"]) fun _ _ _ _ _ _ us hl => match us, hl with | [_, _], _ => rfl
  have b10 := F10.binds (ps := ["one", "other"]) fun _ _ _ _ _ _ us hl => match us, hl with | [_, _], _ => rfl
  have b11 := F11.binds (ps := ["one", "other"]) fun _ _ _ _ _ _ us hl => match us, hl with | [_, _], _ => rfl
  have b12 := F12.binds (ps := ["value"]) fun _ _ _ _ _ _ us hl => match us, hl with | [_], _ => rfl
  have b13 := F13.binds (ps := ["numbers", "power"]) fun _ _ _ _ _ _ us hl => match us, hl with | [_, _], _ => rfl
  have b14 := F14.binds (ps := ["steps"]) fun _ _ _ _ _ _ us hl => match us, hl with | [_], _ => rfl
  have b15 := F15.binds (ps := ["poly", "steps"]) fun _ _ _ _ _ _ us hl => match us, hl with | [_, _], _ => rfl
  have b16 := F16.binds (ps := ["row", "steps"]) fun _ _ _ _ _ _ us hl => match us, hl with | [_, _], _ => rfl
  have b17 := F17.binds (ps := ["poly", "steps"]) fun _ _ _ _ _ _ us hl => match us, hl with | [_, _], _ => rfl
  have b18 := F18.binds (ps := ["_law_one", "_law_two"]) fun _ _ _ _ _ _ us hl => match us, hl with | [_, _], _ => rfl
  have b19 := F19.binds (ps := ["_law_top", "_law_bottom"]) fun _ _ _ _ _ _ us hl => match us, hl with | [_, _], _ => rfl
  have b20 := F20.binds (ps := ["_law_one", "_law_two"]) fun _ _ _ _ _ _ us hl => match us, hl with | [_, _], _ => rfl
  have b21 := F21.binds (ps := ["_law_one", "_law_two"]) fun _ _ _ _ _ _ us hl => match us, hl with | [_, _], _ => rfl
  have b22 := F22.binds (ps := ["_law_one", "_law_two"]) fun _ _ _ _ _ _ us hl => match us, hl with | [_, _], _ => rfl
  have b23 := F23.binds (ps := ["_law_numbers"]) fun _ _ _ _ _ _ us hl => match us, hl with | [_], _ => rfl
  have b24 := F24.binds (ps := ["_law_pen_here", "_law_ratio"]) fun _ _ _ _ _ _ us hl => match us, hl with | [_, _], _ => rfl
  have b25 := F25.binds (ps := ["_law_pen_here", "_law_one"]) fun _ _ _ _ _ _ us hl => match us, hl with | [_, _], _ => rfl
  have b26 := F26.binds (ps := ["_law_pen_here", "_law_most"]) fun _ _ _ _ _ _ us hl => match us, hl with | [_, _], _ => rfl
  have b27 := F27.binds (ps := ["_law_row", "_law_steps"]) fun _ _ _ _ _ _ us hl => match us, hl with | [_, _], _ => rfl
  have b28 := F28.binds (ps := ["_law_number", "_law_step"]) fun _ _ _ _ _ _ us hl => match us, hl with | [_, _], _ => rfl
  have FI0 := fun_mk (st := inClass (topS 4) 0) li0 ci0 ki0
  have bI0 := FI0.binds (ps := ["self", "what", "number"]) fun _ _ _ _ _ _ us hl => match us, hl with | [_, _, _], _ => rfl
  have oo0 : OexC K C0 := oexB_ok ((Bool.and_eq_true_iff.mp ((Bool.and_eq_true_iff.mp (big0)).1)).1) ⟨nm0, qn0, N0, bs0, bm0, sn0, sub0, ab0, col0, dd0, ka0, kb0, kc0, kd0, ke0, lc0, lb0⟩
  have no0_0 := (of_decide_eq_true (Bool.and_eq_true_iff.mp ((Bool.and_eq_true_iff.mp (big0)).1)).2 : PySem.W.findIn K (.ref C0) "what" = some none)
  have no0_1 := (of_decide_eq_true (Bool.and_eq_true_iff.mp (big0)).2 : PySem.W.findIn K (.ref C0) "number" = some none)
  have FI1 := fun_mk (st := inClass (topS 5) 0) li1 ci1 ki1
  have bI1 := FI1.binds (ps := ["self", "row"]) fun _ _ _ _ _ _ us hl => match us, hl with | [_, _], _ => rfl
  have oo1 : OexC K C1 := oexB_ok ((Bool.and_eq_true_iff.mp (big1)).1) ⟨nm1, qn1, N1, bs1, bm1, sn1, sub1, ab1, col1, dd1, ka1, kb1, kc1, kd1, ke1, lc1, lb1⟩
  have no1_0 := (of_decide_eq_true (Bool.and_eq_true_iff.mp (big1)).2 : PySem.W.findIn K (.ref C1) "row" = some none)
  obtain ⟨PC, PMk, PKp⟩ := polyC (mg := mg) (mgo mcg) bigP
  have Fg0 := fun_mk (st := inClass (topS 23) 0) lg0 cg0 kg0
  have bg0 := Fg0.binds (ps := ["self", "numbers"]) fun _ _ _ _ _ _ us hl => match us, hl with | [_, _], _ => rfl
  have Fg1 := fun_mk (st := inClass (topS 23) 1) lg1 cg1 kg1
  have bg1 := Fg1.binds (ps := ["self", "other"]) fun _ _ _ _ _ _ us hl => match us, hl with | [_, _], _ => rfl
  have Fg2 := fun_mk (st := inClass (topS 23) 9) lg2 cg2 kg2
  have bg2 := Fg2.binds (ps := ["self"]) fun _ _ _ _ _ _ us hl => match us, hl with | [_], _ => rfl
  have B : Bi mg := { int := mgn zint, list := mgn zlist, len := mgn zlen, range := mgn zrange }
  have T : Bk mg := { toBi := B, isinstance := mgn zisinstance, bool := mgn zbool, tuple := mgn ztuple, abs := mgn zabs, str := mgn zstr, gcd := mgo aggcd }
  have bl : ∀ (s : Shared) (u : Value), BindsTo s (PySem.W.fnOf "law" "law" (defArgs sLaw) (defBody sLaw) (defScope sLaw) .none kVf29 dcf29 pmf29 anf29 cdf29 ctf29) ⟨[u], []⟩ [("_law_script", u)] := fun s u => .of_eq rfl
  refine ⟨_, [], spLaw0 K, (fun p hp => nomatch hp), (fun p hp => nomatch hp), (fun p hp => nomatch hp), (fun s u => bl s u), (fun H a ns hl _ _ hS => ⟨a, ns, rfl, hS, hl, fun _ => rfl⟩), fun b _ _ mm1 _ => ?_⟩
  let NBadNumber : Ex l.prog w K mg b "BadNumber" C0 ["what", "number"] := ⟨oo0, i0, _, mgo m0, ei0, ti0, bI0, iniBadNumber FI0 oo0 no0_0 no0_1⟩
  let NBadRow : Ex l.prog w K mg b "BadRow" C1 ["row"] := ⟨oo1, i1, _, mgo m1, ei1, ti1, bI1, iniBadRow FI1 oo1 no1_0⟩
  let G_law_draw : Df l.prog w K mg b "_law_draw" 1 ["_law_pen_here", "_law_many"] spDraw := ⟨f1, _, mgo a1, k1, b1, ok_draw F1 B⟩
  let G_law_pick : Df l.prog w K mg b "_law_pick" 2 ["_law_pen_here", "_law_some"] spPick := ⟨f2, _, mgo a2, k2, b2, ok_pick F2 B G_law_draw⟩
  let G_law_pen : Df l.prog w K mg b "_law_pen" 1 ["_law_script"] (spPen K) := ⟨f0, _, mgo a0, k0, b0, ok_pen F0 B⟩
  let Gis_whole : Df l.prog w K mg b "is_whole" 1 ["value"] (spWhole K) := ⟨f3, _, mgo a3, k3, b3, ok_is_whole F3 T⟩
  let Gis_ratio : Df l.prog w K mg b "is_ratio" 2 ["value"] (spIsRatio K) := ⟨f4, _, mgo a4, k4, b4, ok_is_ratio F4 T Gis_whole⟩
  let Gis_ratio_row : Df l.prog w K mg b "is_ratio_row" 3 ["value"] (spIsRow K) := ⟨f5, _, mgo a5, k5, b5, ok_is_row F5 T (mgn zall) Gis_ratio⟩
  let Glowest : Df l.prog w K mg b "lowest" 1 ["top", "bottom"] spLow := ⟨f6, _, mgo a6, k6, b6, ok_lowest F6 T⟩
  let Gparts_of : Dx l.prog w K mg b "parts_of" 3 ["value", "what"] (spParts K C0) := ⟨f7, _, mgo a7, k7, b7, ok_parts F7 T Gis_ratio NBadNumber⟩
  let Gtold : Dx l.prog w K mg b "told" 4 ["value", "what"] (spTold K C0) := ⟨f8, _, mgo a8, k8, b8, ok_told F8 Gparts_of Glowest⟩
  let Gtimes : Dx l.prog w K mg b "times" 4 ["one", "other"] (spTwo K C0 (okLow gTimes)) := ⟨f9, _, mgo a9, k9, b9, ok_times F9 Gparts_of Glowest NBadNumber⟩
  let Gshare : Dx l.prog w K mg b "share" 4 ["one", "other"] (spTwo K C0 (okShare C0)) := ⟨f10, _, mgo a10, k10, b10, ok_share F10 Gparts_of Glowest NBadNumber⟩
  let Glower : Dx l.prog w K mg b "lower" 4 ["one", "other"] (spTwo K C0 okLower) := ⟨f11, _, mgo a11, k11, b11, ok_lower F11 Gparts_of Glowest NBadNumber⟩
  let Gnearest_whole : Dx l.prog w K mg b "nearest_whole" 5 ["value"] (spNear K C0 gNear) := ⟨f12, _, mgo a12, k12, b12, ok_near F12 Gparts_of⟩
  let PM : PoM l.prog w K mg b Cg C1 := ⟨PC, g0, _, ⟨PMk, eg0, fn_of_ty tg0, PKp⟩, bg0, ok_poly_init Fg0 T PC NBadRow Gis_ratio_row Gtold, g1, _, eg1, fn_of_ty tg1, bg1, ok_poly_eq Fg1 T mm1 PC⟩
  let M_degree : Me l.prog w K mg b Cg "degree" 1 ["self"] (spPolyD K Cg) := ⟨g2, _, ⟨eg2, fn_of_ty tg2, kg2⟩, bg2, ok_poly_degree Fg2 T PC⟩
  let Gnumber_of : Df l.prog w K mg b "number_of" 1 ["numbers", "power"] (spNumOf K) := ⟨f13, _, mgo a13, k13, b13, ok_num_of F13 T⟩
  let Gneed_steps : Df l.prog w K mg b "need_steps" 6 ["steps"] (spNeed K) := ⟨f14, _, mgo a14, k14, b14, ok_need F14 T (mgn zall) (mgo acMOST_STEPS) Gis_ratio_row Glower⟩
  let Gon_grid : Df l.prog w K mg b "on_grid" 7 ["poly", "steps"] (spOnG K Cg) := ⟨f15, _, mgo a15, k15, b15, ok_on_grid F15 T B (mgn zall) (mgn zenumerate) PM M_degree Gneed_steps Gnumber_of Gshare⟩
  let Ggrid_poly : Df l.prog w K mg b "grid_poly" 7 ["row", "steps"] (spGP K Cg) := ⟨f16, _, mgo a16, k16, b16, ok_grid_poly F16 T (mgn zall) (mgn zzip) PM Gneed_steps Gis_whole Gtimes⟩
  let Gnearest_row : Df l.prog w K mg b "nearest_row" 7 ["poly", "steps"] (spNR K Cg) := ⟨f17, _, mgo a17, k17, b17, ok_nearest_row F17 T (mgn zenumerate) PM M_degree Gneed_steps Gnumber_of Gshare Gnearest_whole⟩
  let G_law_gcd : Df l.prog w K mg b "_law_gcd" 1 ["_law_one", "_law_two"] spGcd := ⟨f18, _, mgo a18, k18, b18, ok_lgcd F18 T⟩
  let G_law_q : Df l.prog w K mg b "_law_q" 2 ["_law_top", "_law_bottom"] spQ := ⟨f19, _, mgo a19, k19, b19, ok_lq F19 G_law_gcd⟩
  let G_law_plus : Df l.prog w K mg b "_law_plus" 3 ["_law_one", "_law_two"] (spL2 rAdd) := ⟨f20, _, mgo a20, k20, b20, ok_lplus F20 G_law_q⟩
  let G_law_times : Df l.prog w K mg b "_law_times" 3 ["_law_one", "_law_two"] (spL2 rMul) := ⟨f21, _, mgo a21, k21, b21, ok_ltimes F21 G_law_q⟩
  let G_law_share : Df l.prog w K mg b "_law_share" 3 ["_law_one", "_law_two"] spLSh := ⟨f22, _, mgo a22, k22, b22, ok_lshare F22 G_law_q⟩
  let G_law_poly : Df l.prog w K mg b "_law_poly" 1 ["_law_numbers"] (spLPoly K) := ⟨f23, _, mgo a23, k23, b23, ok_lpoly F23 T mm1⟩
  let G_law_passed : Df l.prog w K mg b "_law_passed" 3 ["_law_pen_here", "_law_ratio"] (spPassed K) := ⟨f24, _, mgo a24, k24, b24, ok_passed F24 G_law_draw G_law_pick⟩
  let G_law_made_poly : Df l.prog w K mg b "_law_made_poly" 7 ["_law_pen_here", "_law_one"] (spMade K Cg) := ⟨f25, _, mgo a25, k25, b25, ok_made F25 T PM G_law_draw G_law_pick G_law_passed⟩
  let G_law_grid : Df l.prog w K mg b "_law_grid" 4 ["_law_pen_here", "_law_most"] spLGrid := ⟨f26, _, mgo a26, k26, b26, ok_lgrid F26 T G_law_draw G_law_pick⟩
  let G_law_row_poly : Df l.prog w K mg b "_law_row_poly" 4 ["_law_row", "_law_steps"] (spLRP K) := ⟨f27, _, mgo a27, k27, b27, ok_lrp F27 T (mgn zzip) G_law_poly G_law_times⟩
  let G_law_nearest : Df l.prog w K mg b "_law_nearest" 4 ["_law_number", "_law_step"] spLNr := ⟨f28, _, mgo a28, k28, b28, ok_lnear F28 G_law_share⟩
  exact ok_law F29 T mm1 (mgn zzip) PM G_law_pen G_law_draw G_law_pick G_law_passed G_law_poly G_law_made_poly G_law_plus G_law_times G_law_grid G_law_row_poly G_law_nearest Ggrid_poly Gon_grid Gnearest_row
end Vf

open PySem PySem.W PyProof.Rows
set_option maxRecDepth 100000 in
set_option maxHeartbeats 0 in
theorem PySem.Challenge.cw_nearcurves_k69_whole_rows_of_grids_holds : PySem.Challenge.rw_nearcurves_k69_whole_rows_of_grids.Holds := by
  w_on; o_law; k_head; (case hw => w_witness2)
  k_fill
  refine Vf.walkG (l := PySem.Challenge.rw_nearcurves_k69_whole_rows_of_grids) (n := 63) (k := 9) (C := fun _ => L2.CX0) (x := "_law_script") rfl (by decide) rfl ⟨rfl, by decide, by decide⟩ (by decide +kernel) (fun w h Y => PySem.W.kIn_of Y) ?F (fun _ _ _ _ _ z => z)
  case F =>
    intro w mg fa h Y X G hmg
    refine' Vf.all_mk X G hmg ?a0 ?l0 ?c0 ?k0 ?a1 ?l1 ?c1 ?k1 ?a2 ?l2 ?c2 ?k2 ?a3 ?l3 ?c3 ?k3 ?a4 ?l4 ?c4 ?k4 ?a5 ?l5 ?c5 ?k5 ?a6 ?l6 ?c6 ?k6 ?a7 ?l7 ?c7 ?k7 ?a8 ?l8 ?c8 ?k8 ?a9 ?l9 ?c9 ?k9 ?a10 ?l10 ?c10 ?k10 ?a11 ?l11 ?c11 ?k11 ?a12 ?l12 ?c12 ?k12 ?a13 ?l13 ?c13 ?k13 ?a14 ?l14 ?c14 ?k14 ?a15 ?l15 ?c15 ?k15 ?a16 ?l16 ?c16 ?k16 ?a17 ?l17 ?c17 ?k17 ?a18 ?l18 ?c18 ?k18 ?a19 ?l19 ?c19 ?k19 ?a20 ?l20 ?c20 ?k20 ?a21 ?l21 ?c21 ?k21 ?a22 ?l22 ?c22 ?k22 ?a23 ?l23 ?c23 ?k23 ?a24 ?l24 ?c24 ?k24 ?a25 ?l25 ?c25 ?k25 ?a26 ?l26 ?c26 ?k26 ?a27 ?l27 ?c27 ?k27 ?a28 ?l28 ?c28 ?k28 ?a29 ?l29 ?c29 ?k29 ?aggcd ?acMOST_STEPS ?m0 ?ei0 ?ti0 ?li0 ?ci0 ?ki0 ?lc0 ?lb0 ?big0 ?m1 ?ei1 ?ti1 ?li1 ?ci1 ?ki1 ?lc1 ?lb1 ?big1 ?mcg ?eg0 ?tg0 ?lg0 ?cg0 ?kg0 ?eg1 ?tg1 ?lg1 ?cg1 ?kg1 ?eg2 ?tg2 ?lg2 ?cg2 ?kg2 ?zint ?zlist ?zlen ?zrange ?zstr ?zisinstance ?zbool ?ztuple ?zabs ?zall ?zzip ?zenumerate ?bigP
    (case a0 => k_is)
    (case l0 => k_is)
    (case c0 => k_is)
    (case k0 => k_is)
    (case a1 => k_is)
    (case l1 => k_is)
    (case c1 => k_is)
    (case k1 => k_is)
    (case a2 => k_is)
    (case l2 => k_is)
    (case c2 => k_is)
    (case k2 => k_is)
    (case a3 => k_is)
    (case l3 => k_is)
    (case c3 => k_is)
    (case k3 => k_is)
    (case a4 => k_is)
    (case l4 => k_is)
    (case c4 => k_is)
    (case k4 => k_is)
    (case a5 => k_is)
    (case l5 => k_is)
    (case c5 => k_is)
    (case k5 => k_is)
    (case a6 => k_is)
    (case l6 => k_is)
    (case c6 => k_is)
    (case k6 => k_is)
    (case a7 => k_is)
    (case l7 => k_is)
    (case c7 => k_is)
    (case k7 => k_is)
    (case a8 => k_is)
    (case l8 => k_is)
    (case c8 => k_is)
    (case k8 => k_is)
    (case a9 => k_is)
    (case l9 => k_is)
    (case c9 => k_is)
    (case k9 => k_is)
    (case a10 => k_is)
    (case l10 => k_is)
    (case c10 => k_is)
    (case k10 => k_is)
    (case a11 => k_is)
    (case l11 => k_is)
    (case c11 => k_is)
    (case k11 => k_is)
    (case a12 => k_is)
    (case l12 => k_is)
    (case c12 => k_is)
    (case k12 => k_is)
    (case a13 => k_is)
    (case l13 => k_is)
    (case c13 => k_is)
    (case k13 => k_is)
    (case a14 => k_is)
    (case l14 => k_is)
    (case c14 => k_is)
    (case k14 => k_is)
    (case a15 => k_is)
    (case l15 => k_is)
    (case c15 => k_is)
    (case k15 => k_is)
    (case a16 => k_is)
    (case l16 => k_is)
    (case c16 => k_is)
    (case k16 => k_is)
    (case a17 => k_is)
    (case l17 => k_is)
    (case c17 => k_is)
    (case k17 => k_is)
    (case a18 => k_is)
    (case l18 => k_is)
    (case c18 => k_is)
    (case k18 => k_is)
    (case a19 => k_is)
    (case l19 => k_is)
    (case c19 => k_is)
    (case k19 => k_is)
    (case a20 => k_is)
    (case l20 => k_is)
    (case c20 => k_is)
    (case k20 => k_is)
    (case a21 => k_is)
    (case l21 => k_is)
    (case c21 => k_is)
    (case k21 => k_is)
    (case a22 => k_is)
    (case l22 => k_is)
    (case c22 => k_is)
    (case k22 => k_is)
    (case a23 => k_is)
    (case l23 => k_is)
    (case c23 => k_is)
    (case k23 => k_is)
    (case a24 => k_is)
    (case l24 => k_is)
    (case c24 => k_is)
    (case k24 => k_is)
    (case a25 => k_is)
    (case l25 => k_is)
    (case c25 => k_is)
    (case k25 => k_is)
    (case a26 => k_is)
    (case l26 => k_is)
    (case c26 => k_is)
    (case k26 => k_is)
    (case a27 => k_is)
    (case l27 => k_is)
    (case c27 => k_is)
    (case k27 => k_is)
    (case a28 => k_is)
    (case l28 => k_is)
    (case c28 => k_is)
    (case k28 => k_is)
    (case a29 => k_is)
    (case l29 => k_is)
    (case c29 => k_is)
    (case k29 => k_is)
    (case aggcd => k_is)
    (case acMOST_STEPS => k_is)
    (case m0 => k_is)
    (case ei0 => k_is)
    (case ti0 => k_is)
    (case li0 => k_is)
    (case ci0 => k_is)
    (case ki0 => k_is)
    (case lc0 => k_is)
    (case lb0 => decide +kernel)
    (case big0 => kernel_rfl)
    (case m1 => k_is)
    (case ei1 => k_is)
    (case ti1 => k_is)
    (case li1 => k_is)
    (case ci1 => k_is)
    (case ki1 => k_is)
    (case lc1 => k_is)
    (case lb1 => decide +kernel)
    (case big1 => kernel_rfl)
    (case mcg => k_is)
    (case eg0 => k_is)
    (case tg0 => k_is)
    (case lg0 => k_is)
    (case cg0 => k_is)
    (case kg0 => k_is)
    (case eg1 => k_is)
    (case tg1 => k_is)
    (case lg1 => k_is)
    (case cg1 => k_is)
    (case kg1 => k_is)
    (case eg2 => k_is)
    (case tg2 => k_is)
    (case lg2 => k_is)
    (case cg2 => k_is)
    (case kg2 => k_is)
    (case zint => k_is)
    (case zlist => k_is)
    (case zlen => k_is)
    (case zrange => k_is)
    (case zstr => k_is)
    (case zisinstance => k_is)
    (case zbool => k_is)
    (case ztuple => k_is)
    (case zabs => k_is)
    (case zall => k_is)
    (case zzip => k_is)
    (case zenumerate => k_is)
    (case bigP => kernel_rfl)
