import PyProof.Rows.All
import Wide.All
import OpenK.AllK
import Wide.FinOn
import HandS.ForMost
import HandS.ForExc
import HandS.EndBits
import HandS.EndTab
import HandS.Lambda
import HandS.ExcInit
import HandS.ExcValue
import HandS.ExcIs
import HandS.IsInst
import PyProof.ReprLen
import PyProof.StrLawsRepr
import HandS.TryMany
import HandS.ExcField
import HandS.CallLocal
import HandS.Gcd
import HandS.Wide
import KE.DataEq
import HandS.SlotsOwn
import HandS.WordsExc
import HandS.Zip
import HandS.Style
import KE.GoesZip
import KE.GoesMore
import KE.GoesEnum
import HandS.TupAny
import HandS.TupMul
import HandS.WideBits
import HandS.MakeKw
import PySem.Challenge.RW_nearcurves_k09_whole_corners
set_option Elab.async false
set_option linter.all false
set_option maxRecDepth 100000
set_option maxHeartbeats 4000000
/-! common: data with dicts, repr, a promise where no guard stands, the entry -/
namespace Vf
open PySem PySem.Spec PyProof.Rows L2

/-- a key as data -/
def kD : Key → PyData
  | .inl i => .int i
  | .inr x => .str x

mutual
/-- the value v, read in H, is the data d (dicts too) -/
inductive Dt (K : PySem.W.Frag) (H : Hp) : V → PyData → Prop
  | non : Dt K H .non .none
  | bl (b : Bool) : Dt K H (.bl b) (.bool b)
  | int (i : Int) : Dt K H (.int i) (.int i)
  | str (x : Str) : Dt K H (.str x) (.str x)
  | lst {a : Addr} {vs : List V} {ds : List PyData} : SqL K H a vs → Dts K H vs ds → Dt K H (.ref a) (.list ds)
  | tup {a : Addr} {vs : List V} {ds : List PyData} : SqT K H a vs → Dts K H vs ds → Dt K H (.ref a) (.tuple ds)
  | dct {a : Addr} {kvs : List (Key × V)} {ds : List PyData} : H a = some (.dK kvs) → Dts K H (kvs.map (·.2)) ds → Dt K H (.ref a) (.dict ((kvs.map fun p => kD p.1).zip ds))
inductive Dts (K : PySem.W.Frag) (H : Hp) : List V → List PyData → Prop
  | nil : Dts K H [] []
  | cons {v : V} {vs : List V} {d : PyData} {ds : List PyData} : Dt K H v d → Dts K H vs ds → Dts K H (v :: vs) (d :: ds)
end

theorem Dts.len {K : PySem.W.Frag} {H : Hp} : ∀ {vs : List V} {ds : List PyData}, Dts K H vs ds → vs.length = ds.length
  | _, _, .nil => rfl
  | _, _, .cons _ t => congrArg (· + 1) t.len
theorem Dts.at {K : PySem.W.Frag} {H : Hp} : ∀ {vs : List V} {ds : List PyData} {i : Nat} {v : V}, Dts K H vs ds → vs[i]? = some v → ∃ d, ds[i]? = some d ∧ Dt K H v d
  | _, _, _, _, .nil, e => by simp at e
  | _, _, 0, _, .cons h _, e => by simp at e; subst e; exact ⟨_, rfl, h⟩
  | _, _, i + 1, v, .cons _ t, e => by
    obtain ⟨d, h1, h2⟩ := t.at (i := i) (v := v) (by simpa using e)
    exact ⟨d, by simpa using h1, h2⟩
theorem Dts.app {K : PySem.W.Frag} {H : Hp} : ∀ {vs ws : List V} {ds es : List PyData}, Dts K H vs ds → Dts K H ws es → Dts K H (vs ++ ws) (ds ++ es)
  | _, _, _, _, .nil, h => h
  | _, _, _, _, .cons a t, h => .cons a (t.app h)
theorem Dts.take {K : PySem.W.Frag} {H : Hp} : ∀ {vs : List V} {ds : List PyData} (n : Nat), Dts K H vs ds → Dts K H (vs.take n) (ds.take n)
  | _, _, 0, _ => .nil
  | _, _, _ + 1, .nil => .nil
  | _, _, n + 1, .cons a t => .cons a (t.take n)

/-- all that is tracked in H stands in H' -/
theorem same_sqL {K : PySem.W.Frag} {H H' : Hp} {a : Addr} {xs : List V} (e : Same H H') (h : SqL K H a xs) : SqL K H' a xs := e.seq h
theorem same_sqT {K : PySem.W.Frag} {H H' : Hp} {a : Addr} {xs : List V} (e : Same H H') (h : SqT K H a xs) : SqT K H' a xs := by
  rcases h with (h | ⟨o, h⟩) | h
  · exact Or.inl (Or.inl (e a _ h))
  · exact Or.inl (Or.inr ⟨o, e a _ h⟩)
  · exact Or.inr h
mutual
theorem Dt.mono {K : PySem.W.Frag} {H H' : Hp} (e : Same H H') : ∀ {v : V} {d : PyData}, Dt K H v d → Dt K H' v d
  | _, _, .non => .non
  | _, _, .bl b => .bl b
  | _, _, .int i => .int i
  | _, _, .str x => .str x
  | _, _, .lst h1 h2 => .lst (same_sqL e h1) (Dts.mono e h2)
  | _, _, .tup h1 h2 => .tup (same_sqT e h1) (Dts.mono e h2)
  | _, _, .dct h1 h2 => .dct (e _ _ h1) (Dts.mono e h2)
theorem Dts.mono {K : PySem.W.Frag} {H H' : Hp} (e : Same H H') : ∀ {vs : List V} {ds : List PyData}, Dts K H vs ds → Dts K H' vs ds
  | _, _, .nil => .nil
  | _, _, .cons h1 h2 => .cons (Dt.mono e h1) (Dts.mono e h2)
end

/-- the dict of modules stands in the base -/
def M1 (b : Heap) : Prop := ∃ o es ep, b.get? sysModules = some o ∧ o.data = .dict es ep

theorem key_reads {h : Heap} {P : Program} {w : World} : ∀ {es : List DictEntry} {vs : List (Key × Value)} {ps : List (Key × V)}, PySem.Pairs (mixKind P w) es vs → KV ps vs →
    ReadsAll h (es.map (·.key)) (ps.map fun p => kD p.1) [] ∧ Vals (ps.map (·.2)) (es.map (·.val))
  | _, _, _, .nil, .nil => ⟨.nil, .nil⟩
  | _, _, _, .cons k1 k2 t, .cons r1 r2 => by
    obtain ⟨g1, g2⟩ := key_reads (h := h) t r2
    obtain ⟨e1, e2⟩ := r1
    refine ⟨?_, .cons (by have z := e2; rw [← k2] at z; exact z) g2⟩
    rw [← e1] at k1
    rename_i e kv es' kvs' p ps'
    have k3 : keyIs p.1 e.key = true := k1
    rcases keyIs_shape k3 with ⟨i, t, a1, a2⟩ | ⟨x, t, a1, a2⟩
    · have z : Reads h e.key (kD p.1) [] := by rw [a1, a2]; exact .int i t
      exact .cons (as := []) (bs := []) z g1
    · have z : Reads h e.key (kD p.1) [] := by rw [a1, a2]; exact .str x t
      exact .cons (as := []) (bs := []) z g1
theorem zip_fst {α β : Type} : ∀ {l : List α} {r : List β}, l.length = r.length → (l.zip r).map (·.1) = l
  | [], _, _ => by simp
  | a :: l, [], h => by simp at h
  | a :: l, b :: r, h => by
    rw [List.zip_cons_cons, List.map_cons, zip_fst (by simpa using h)]
theorem zip_snd {α β : Type} : ∀ {l : List α} {r : List β}, l.length = r.length → (l.zip r).map (·.2) = r
  | [], [], _ => rfl
  | [], b :: r, h => by simp at h
  | a :: l, [], h => by simp at h
  | a :: l, b :: r, h => by
    rw [List.zip_cons_cons, List.map_cons, zip_snd (by simpa using h)]

section
variable {X : Cx} {pins : List (Addr × Obj)} {σ : L2.St} {H : Hp} {s : Shared}
theorem not_sys (I : Inv X pins σ H s) (m : M1 X.base) {a : Addr} {o : Obj} {vs : Array Value} {n : Nat} (e : s.heap.get? a = some o) (d : o.data = .seq vs n) : sysModules ≠ a := fun z => by
  obtain ⟨o1, es, ep, e1, e2⟩ := m
  have q := I.bk _ _ e1
  rw [z, e] at q
  cases q
  rw [d] at e2
  cases e2
mutual
theorem Dt.reads (I : Inv X pins σ H s) (m : M1 X.base) : ∀ {v : V} {d : PyData} {u : Value}, Dt X.K H v d → RelV v u → ∃ as, Reads s.heap u d as ∧ sysModules ∉ as
  | _, _, u, .non, r => by
    obtain rfl : u = Value.none := r
    exact ⟨[], .none, by simp⟩
  | _, _, u, .bl b, r => by
    obtain rfl : u = Value.bool b := r
    exact ⟨[], .bool b, by simp⟩
  | _, _, u, .int i, r => by
    obtain ⟨t, rfl⟩ := r
    exact ⟨[], .int i t, by simp⟩
  | _, _, u, .str x, r => by
    obtain ⟨t, rfl⟩ := r
    exact ⟨[], .str x t, by simp⟩
  | _, _, u, .lst (a := a) h1 h2, r => by
    obtain rfl : u = Value.ref a := r
    obtain ⟨its, rv, ⟨o, n, e1, e2, e3, e4⟩, hz⟩ := I.list h1
    obtain ⟨as, ra, na⟩ := Dts.reads I m h2 rv
    refine ⟨_, .list e1 e2 e4 (by simpa using ra), fun z => ?_⟩
    rcases List.mem_cons.mp z with z | z
    · exact not_sys I m e1 e4 z
    · exact na z
  | _, _, u, .tup (a := a) h1 h2, r => by
    obtain rfl : u = Value.ref a := r
    obtain ⟨its, rv, ⟨o, e1, e2, n, e4⟩, hz⟩ := I.tuple h1
    obtain ⟨as, ra, na⟩ := Dts.reads I m h2 rv
    exact ⟨_, .tuple e1 e2 e4 (by simpa using ra), na⟩
  | _, _, u, .dct (a := a) (kvs := ps) (ds := ds) h1 h2, r => by
    obtain rfl : u = Value.ref a := r
    obtain ⟨hz, hs, vs, kv, o, es, ep, e1, ex, e2, hk, hp, hn⟩ := dk_of I.hok h1
    obtain ⟨g1, g2⟩ := key_reads (h := s.heap) hp kv
    obtain ⟨bs, rb, nb⟩ := Dts.reads I m h2 g2
    have hl : (ps.map fun p => kD p.1).length = ds.length := by
      have z := h2.len
      rw [List.length_map] at z ⊢
      exact z
    refine ⟨a :: [] ++ bs, .dict e1 ex.1 e2 (by rw [zip_fst hl]; exact g1) (by rw [zip_snd hl]; exact rb), fun z => ?_⟩
    rcases List.mem_cons.mp z with z | z
    · rw [z] at hs
      simp at hs
    · exact nb z
theorem Dts.reads (I : Inv X pins σ H s) (m : M1 X.base) : ∀ {vs : List V} {ds : List PyData} {us : List Value}, Dts X.K H vs ds → Vals vs us → ∃ as, ReadsAll s.heap us ds as ∧ sysModules ∉ as
  | _, _, _, .nil, .nil => ⟨[], .nil, by simp⟩
  | _, _, _, .cons h1 h2, .cons r1 r2 => by
    obtain ⟨as, q1, n1⟩ := Dt.reads I m h1 r1
    obtain ⟨bs, q2, n2⟩ := Dts.reads I m h2 r2
    refine ⟨as ++ bs, .cons q1 q2, fun z => ?_⟩
    rcases List.mem_append.mp z with z | z
    · exact n1 z
    · exact n2 z
end
end

/-- the sizes of the parts of a text of data -/
def small : PyData → Prop := fun d => d.showable = true ∧ d.depth ≤ 64 ∧ d.shown.length ≤ sizeLine
/-- repr of data, where no guard stands -/
theorem call_reprD {X : Cx} {k : Nat} (hg : X.A.guards = some []) (hr : Room k X.A) (m : M1 X.base) :
    CallR X (.builtin "repr") (fun xs H Q => ∃ v d, xs = [v] ∧ Dt X.K H v d ∧ small d ∧ Q (.str d.shown) H) := by
  intro pins s σ H xs us Q I r h
  obtain ⟨v, d, rfl, hd, ⟨hs, hz, hl⟩, q⟩ := h
  obtain ⟨u, rfl, ru⟩ := vals1 r
  obtain ⟨as, rd, na⟩ := Dt.reads I m hd ru
  cases rd with
  | none => exact PySem.P.repr_of_none ⟨.str _, H, I.tok _, ⟨_, rfl⟩, by simpa only [PyData.shown] using q⟩
  | bool b => exact PySem.P.repr_of_bool ⟨.str _, H, I.tok _, ⟨_, rfl⟩, by simpa only [PyData.shown] using q⟩
  | int i t => exact PySem.P.repr_of_int (by simpa [PyData.showable] using hs) ⟨.str _, H, I.tok _, ⟨_, rfl⟩, by simpa only [PyData.shown] using q⟩
  | str x t => exact PySem.P.repr_of_str ⟨.str _, H, I.tok _, ⟨_, rfl⟩, by simpa only [PyData.shown] using q⟩ (by simpa only [PyData.shown] using hl)
  | list a1 a2 a3 a4 => exact repr_of_reads' (.list a1 a2 a3 a4) hs (fun _ => na) hg (by have := hr.un; omega) (fun _ _ e => e) (fun h' u tk hk => ⟨.str _, H, I.kept hk, ⟨_, rfl⟩, q⟩) hl
  | tuple a1 a2 a3 a4 => exact repr_of_reads' (.tuple a1 a2 a3 a4) hs (fun _ => na) hg (by have := hr.un; omega) (fun _ _ e => e) (fun h' u tk hk => ⟨.str _, H, I.kept hk, ⟨_, rfl⟩, q⟩) hl
  | dict a1 a2 a3 a4 a5 => exact repr_of_reads' (.dict a1 a2 a3 a4 a5) hs (fun _ => na) hg (by have := hr.un; omega) (fun _ _ e => e) (fun h' u tk hk => ⟨.str _, H, I.kept hk, ⟨_, rfl⟩, q⟩) hl

/-! ### a promise that is asked only where no guard stands -/
structure FnG (P : Program) (w : World) (K : PySem.W.Frag) (mg : Str → Option Value) (base : Heap) (C : CXT) (k : Nat) (f : Addr) (fd : FuncData) (ps : List Str) (sp : Sp) : Prop where
  arity : ∀ vs H Q E, sp vs H Q E → vs.length = ps.length
  go : ∀ {A : Around} {out : List Env} {s : Shared} {H : Hp} {args : Args} {us : List Value} {vs : List V} {Q : VK} {E : XK}, A.guards = some [] → Room k A → Env0 P w K mg base A out s H → BindsTo s fd args (ps.zip us) →
    Vals vs us → sp vs H Q E → codeAny (model P w) A (.call (.ref f) args) (CR C out P w H s Q E) s
theorem fnG_of {C : CXT} {P : Program} {w : World} {K : PySem.W.Frag} {mg : Str → Option Value} {base : Heap} {x qual : Str} {st : Stmt} {f : Addr} {fd : FuncData} {N ps : List Str} {k : Nat} {sp : Sp} (F : Fun K x qual st f fd) (S : FnScope N ps (defScope st))
    (ar : ∀ vs H Q E, sp vs H Q E → vs.length = ps.length)
    (body : ∀ (cdv : Value) (A : Around) (out : List Env) (s : Shared) (H : Hp) (vs : List V) (Q : VK) (E : XK), A.guards = some [] → Room k (A.deeper (envOfC qual (defScope st) s.heap.objs.size f cdv)) → PySem.W.codeIn K cdv qual = true → sp vs H Q E →
      ∃ t, PSs (cxOf C P w K mg base N qual (defScope st) f cdv A out s H E) (defBody st) t ∧ t { nx := fun _ H' => Q .non H', rt := Q } (start N vs) H) : FnG P w K mg base C (k + 1) f fd ps sp := by
  obtain ⟨oc, od, kV, doc, pm, an, cdv, ct, osl, e, lk, hcd⟩ := F.ex
  subst e
  refine ⟨ar, fun {A out s H args us vs Q E} hgu hr e0 hb r h => ?_⟩
  exact LamX.run_ofS lk hcd S hr e0 hb r (ar _ _ _ _ h) fun hr' => body cdv A out s H vs Q E hgu hr' hcd h

theorem fnG_of0 {P : Program} {w : World} {K : PySem.W.Frag} {mg : Str → Option Value} {base : Heap} {x qual : Str} {st : Stmt} {f : Addr} {fd : FuncData} {N ps : List Str} {k : Nat} {sp : Sp} (F : Fun K x qual st f fd) (S : FnScope N ps (defScope st))
    (ar : ∀ vs H Q E, sp vs H Q E → vs.length = ps.length)
    (body : ∀ (cdv : Value) (A : Around) (out : List Env) (s : Shared) (H : Hp) (vs : List V) (Q : VK) (E : XK), A.guards = some [] → Room k (A.deeper (envOfC qual (defScope st) s.heap.objs.size f cdv)) → PySem.W.codeIn K cdv qual = true → sp vs H Q E →
      ∃ t, PSs (cxOf CX0 P w K mg base N qual (defScope st) f cdv A out s H E).nox (defBody st) t ∧ t { nx := fun _ H' => Q .non H', rt := Q } (start N vs) H) : FnG P w K mg base CX0 (k + 1) f fd ps sp :=
  fnG_of F S ar fun cdv A out s H vs Q E h1 h2 h3 h4 => by
    obtain ⟨t, z, q⟩ := body cdv A out s H vs Q E h1 h2 h3 h4
    exact ⟨t, z.nox, q⟩

/-! ### the entry -/
/-- what is tracked where the law is called: the script, the tables of code objects -/
structure Fit (P : Program) (w : World) (K : PySem.W.Frag) (h : Heap) (cs : List (Addr × Addr)) (a : Addr) (ns : List Int) (H : Hp) : Prop where
  tabs : ∀ p ∈ cs, H p.2 = some (.tbl #[])
  scr : SqL K H a (ns.map V.int)
  held : HOk P w H h
  only : ∀ b u, H b = some u → (b = a ∧ K.lookup a = none ∧ ∃ o xs, u = .frz o (.lst xs)) ∨ ((∃ p ∈ cs, b = p.2) ∧ u = .tbl #[])
def isTab (cs : List (Addr × Addr)) (b : Addr) : Bool := cs.any fun p => p.2 == b
theorem isTab_mem {cs : List (Addr × Addr)} {b : Addr} (h : isTab cs b = true) : ∃ p ∈ cs, b = p.2 := by
  obtain ⟨p, hp, e⟩ := List.any_eq_true.mp h
  exact ⟨p, hp, (beq_iff_eq.mp e).symm⟩
theorem isTab_of {cs : List (Addr × Addr)} {p : Addr × Addr} (h : p ∈ cs) : isTab cs p.2 = true := List.any_eq_true.mpr ⟨p, h, beq_self_eq_true _⟩
/-- the heap as it is told at the entry -/
def entryH (t : Bool) (o : Obj) (ns : List Int) (cs : List (Addr × Addr)) (a : Addr) : Hp := fun b =>
  if isTab cs b = true then some (.tbl #[]) else if t = true ∧ b = a then some (.frz o (.lst (ns.map V.int))) else none
theorem fit_ex {P : Program} {w : World} {K : PySem.W.Frag} {h : Heap} {cs : List (Addr × Addr)} {a : Addr} {vs : List Value} {ns : List Int} (hK : K.In h) (hT : ∀ p ∈ cs, h.get? p.2 = some { cls := .none, data := .fields #[] })
    (ha : h.get? a = some { cls := .type "list", data := .seq vs.toArray }) (hi : IntsAre vs ns) (hl : ns.length ≤ sizeLine) : ∃ H, Fit P w K h cs a ns H := by
  have rv := vals_ints hi
  have nt : isTab cs a = false := by
    cases e : isTab cs a with
    | false => rfl
    | true =>
      obtain ⟨p, hp, e2⟩ := isTab_mem e
      have q := hT p hp
      rw [← e2, ha] at q
      cases q
  have hl2 : (ns.map V.int).length ≤ sizeLine := by rw [List.length_map]; exact hl
  cases hk : K.lookup a with
  | some o =>
    have q := hK a o hk
    rw [ha] at q
    have q2 := Option.some.inj q
    refine ⟨entryH false { cls := .type "list", data := .seq vs.toArray } ns cs a, fun p hp => if_pos (isTab_of hp), ?_, fun b u e => ?_, fun b u e => ?_⟩
    · refine Or.inr ⟨o, vs.toArray, 0, hk, by rw [← q2], by rw [← q2], by rw [← q2], ?_, by simpa using rv⟩
      rw [List.size_toArray, hi.length]
      exact hl
    all_goals
      unfold entryH at e
      by_cases t : isTab cs b = true
      · rw [if_pos t] at e
        obtain ⟨p, hp, e2⟩ := isTab_mem t
        cases e
        first
          | (rw [e2]; exact hT p hp)
          | exact Or.inr ⟨⟨p, hp, e2⟩, rfl⟩
      · rw [if_neg t, if_neg (fun z => Bool.false_ne_true z.1)] at e
        cases e
  | none =>
    refine ⟨entryH true { cls := .type "list", data := .seq vs.toArray } ns cs a, fun p hp => if_pos (isTab_of hp), ?_, fun b u e => ?_, fun b u e => ?_⟩
    · refine Or.inl (Or.inr ⟨{ cls := .type "list", data := .seq vs.toArray }, ?_⟩)
      unfold entryH
      rw [if_neg (by rw [nt]; decide), if_pos ⟨rfl, rfl⟩]
    all_goals
      unfold entryH at e
      by_cases t : isTab cs b = true
      · rw [if_pos t] at e
        obtain ⟨p, hp, e2⟩ := isTab_mem t
        cases e
        first
          | (rw [e2]; exact hT p hp)
          | exact Or.inr ⟨⟨p, hp, e2⟩, rfl⟩
      · rw [if_neg t] at e
        by_cases ba : b = a
        · rw [if_pos ⟨rfl, ba⟩] at e
          cases e
          first
            | (rw [ba]; exact ⟨ha, hl2, vs, _, rv, ha⟩)
            | exact Or.inl ⟨ba, hk, _, _, rfl⟩
        · rw [if_neg (fun z => ba z.2)] at e
          cases e
/-- the law's call, from its promise where no guard stands -/
theorem law_enter {P : Program} {w : World} {K : PySem.W.Frag} {mg mb : Str → Option Value} {C : CXT} {k : Nat} {fa a : Addr} {cs : List (Addr × Addr)} {fd : FuncData} {x : Str} {sp : Sp} {s1 : Shared} {vs : List Value} {ns : List Int}
    (hK : K.In s1.heap) (hG : s1.heap.Ns mainGlobals mg) (hB : s1.heap.Ns builtinsNs mb) (hBB : ∀ x : Str, x ≠ "__name__" → mb x = bootBuiltins x) (hL : s1.heap.NoLimit) (hg : s1.gens = #[])
    (hT : ∀ p ∈ cs, s1.heap.get? p.2 = some { cls := .none, data := .fields #[] }) (nT : ∀ p ∈ cs, K.lookup p.2 = none) (hC : ∀ p ∈ cs, PySem.W.CodeHd s1.heap p.1 p.2)
    (hM : ∃ (bm : Addr) (ob : Obj), mg "__builtins__" = some (.ref bm) ∧ bm ≠ builtinsNs ∧ s1.heap.get? bm = some ob ∧ ob.cls = .type "module" ∧ ob.dict = some builtinsNs ∧ ob.data = .plain)
    (hs : M1 s1.heap) (ha : s1.heap.get? a = some { cls := .type "list", data := .seq vs.toArray }) (hi : IntsAre vs ns) (hl : ns.length ≤ sizeLine) (hr : Room k callerA)
    (F : ∀ b : Heap, K.In b → b.Ns mainGlobals mg → M1 b → (∀ p ∈ cs, LamX.TabB b mg p.1 p.2) → FnG P w K mg b C k fa fd [x] sp) (bind : ∀ (s : Shared) (u : Value), BindsTo s fd ⟨[u], []⟩ [(x, u)])
    (hsp : ∀ H : Hp, (∀ p ∈ cs, H p.2 = some (.tbl #[])) → SqL K H a (ns.map V.int) → sp [.ref a] H (fun v _ => v = .bl true) E0)
    (hE : ∀ H e s', C [] H s1 E0 e s' → False) :
    codeAny (model P w) callerA (.call (.ref fa) ⟨[.ref a], []⟩) (fun r s' => r = .ok (.ret (.bool true)) ∧ OldK s1.heap s'.heap ∧ s'.os = s1.os ∧ AllBare s'.gens) s1 := by
  obtain ⟨H, ft⟩ := fit_ex (P := P) (w := w) hK hT ha hi hl
  -- an object of neither kind is not tracked
  have un : ∀ {b : Addr} {o : Obj}, s1.heap.get? b = some o → (∀ us n, o.data ≠ .seq us n) → o.data ≠ .fields #[] → H b = none := by
    intro b o e n1 n2
    cases q : H b with
    | none => rfl
    | some u =>
      exfalso
      rcases ft.only b u q with ⟨z, _⟩ | ⟨⟨p, hp, z⟩, _⟩
      · rw [z, ha] at e
        cases e
        exact n1 _ _ rfl
      · rw [z, hT p hp] at e
        cases e
        exact n2 rfl
  have inB : ∀ {b : Addr} {o : Obj}, s1.heap.get? b = some o → (∀ us n, o.data ≠ .seq us n) → o.data ≠ .fields #[] → (hidT s1.heap H).get? b = some o := fun e n1 n2 => hidT_get e (un e n1 n2)
  have nsB : ∀ {b : Addr} {m : Str → Option Value}, s1.heap.Ns b m → (hidT s1.heap H).Ns b m := by
    intro b m ⟨o, es, ep, e, d, r⟩
    refine ⟨o, es, ep, inB e (fun us n z => ?_) (fun z => ?_), d, r⟩ <;> rw [d] at z <;> cases z
  have kB : K.In (hidT s1.heap H) := fun b o e => by
    refine hidT_get (hK b o e) ?_
    cases q : H b with
    | none => rfl
    | some u =>
      exfalso
      rcases ft.only b u q with ⟨z, n, _⟩ | ⟨⟨p, hp, z⟩, _⟩
      · rw [z, n] at e
        cases e
      · rw [z, nT p hp] at e
        cases e
  have mB : M1 (hidT s1.heap H) := by
    obtain ⟨o, es, ep, e, d⟩ := hs
    refine ⟨o, es, ep, inB e (fun us n z => ?_) (fun z => ?_), d⟩ <;> rw [d] at z <;> cases z
  have tB : ∀ p ∈ cs, LamX.TabB (hidT s1.heap H) mg p.1 p.2 := fun p hp => by
    obtain ⟨o, us, file, tf, flags, tg, inF, text, tt, c1, c2, c3, c4, c5, c6, c7, c8, c9, c10⟩ := hC p hp
    obtain ⟨bm, ob, d1, d2, d3, d4, d5, d6⟩ := hM
    have tp := hT p hp
    refine ⟨⟨o, us, file, tf, flags, tg, inF, text, tt, inB c1 (fun us n z => ?_) (fun z => ?_), c2, c3, c4, c5, c6, c7, c8, c9, c10⟩, ⟨bm, ob, d1, d2, fun z => ?_, fun z => ?_, inB d3 (fun us n z => ?_) (fun z => ?_), d4, d5, d6⟩, fun z => ?_⟩
    · rw [c3] at z
      cases z
    · rw [c3] at z
      cases z
      simp at c4
    · obtain ⟨o2, es, ep, e, d, _⟩ := hG
      rw [z, e] at d3
      cases d3
      rw [d] at d6
      cases d6
    · rw [z, tp] at d3
      cases d3
      cases d6
    · rw [d6] at z
      cases z
    · rw [d6] at z
      cases z
    · obtain ⟨o2, es, ep, e, d, _⟩ := hG
      rw [z, tp] at e
      cases e
      cases d
  have e0 : Env0 P w K mg (hidT s1.heap H) callerA [] s1 H := {
    frames := rfl
    mod := ⟨kB, nsB hG, ⟨mb, nsB hB, hBB⟩, let ⟨mc, z1, z2⟩ := hL; ⟨mc, nsB z1, z2⟩⟩
    bs := fun b o e => of_hidT e
    bsz := Nat.le_of_eq (hidT_size _ _)
    funs := trivial
    frf := fun b hb => nomatch (show b ∈ ([] : List Addr) from hb)
    hok := ft.held
    bare := .of_eq hg }
  refine codeAny_mono ((F _ kB (nsB hG) mB tB).go (us := [.ref a]) (vs := [.ref a]) rfl hr e0 (bind s1 _) (.cons rfl .nil) (hsp H ft.tabs ft.scr)) fun r s' h => ?_
  match r, h with
  | .error e, h => exact (hE H e s' h).elim
  | .ok .next, h => exact h.elim
  | .ok .brk, h => exact h.elim
  | .ok .cont, h => exact h.elim
  | .ok (.ret u), ⟨v, H', os, bare, U, held', rv, ev⟩ =>
    have ev2 : v = .bl true := ev
    rw [ev2] at rv
    obtain rfl : u = Value.bool true := rv
    have tab' : ∀ p ∈ cs, ∃ more : Array Value, s'.heap.get? p.2 = some { cls := .none, data := .fields more } := fun p hp => by
      obtain ⟨more, z⟩ := U.tbls p.2 #[] (ft.tabs p hp)
      exact ⟨_, held' _ _ z⟩
    have old : ∀ b o, isTab cs b = false → s1.heap.get? b = some o → s'.heap.get? b = some o := fun b o nb e => by
      cases q : H b with
      | none => exact U.keep b o e q (fun z => nomatch (show b ∈ ([] : List Addr) from z)) (fun z => nomatch z)
      | some y =>
        rcases ft.only b y q with ⟨_, _, ob, xs, z⟩ | ⟨⟨p, hp, z⟩, _⟩
        · rw [z] at q
          have g1 := (ft.held b _ q).1
          have g2 := (held' b _ (U.frzs b ob _ q)).1
          rw [e] at g1
          cases g1
          exact g2
        · rw [z, isTab_of hp] at nb
          cases nb
    refine ⟨rfl, ⟨fun b o e => ?_, fun b o e => ?_⟩, os, bare⟩
    · cases nb : isTab cs b with
      | false => exact .inl (old b o nb e)
      | true =>
        obtain ⟨p, hp, z⟩ := isTab_mem nb
        obtain ⟨more, hm⟩ := tab' p hp
        rw [z] at e ⊢
        rw [hT p hp] at e
        cases e
        exact .inr (.inl ⟨((hC p hp).tab (hT p hp)).isCodeTable, rfl, #[], more, rfl, by rw [Array.empty_append]; exact hm⟩)
    · cases nb : isTab cs b with
      | false => exact ⟨o, old b o nb e⟩
      | true =>
        obtain ⟨p, hp, z⟩ := isTab_mem nb
        obtain ⟨more, hm⟩ := tab' p hp
        rw [z]
        exact ⟨_, hm⟩
end Vf

set_option maxRecDepth 100000
set_option maxHeartbeats 4000000
/-! exceptions held as values -/
namespace Vf
open PySem PySem.Spec PyProof.Rows L2
section
open PySem.W PySem.Calls
variable {prog : Program} {w : World} {K : Frag} {x D : Addr} {ox : Obj} {od : Option Obj}
theorem bound_any {C : Addr} {nm : Str} {a g : Value} (c : (clsIn K C).isSome = true) (fa : findIn K (.ref C) nm = some (some a)) (fg : specialIn K a "__get__" = some (some g)) (ft : takesIn K a = some true) : findObj K C od nm = some (.bind g a) := by
  obtain ⟨cd, c⟩ := Option.isSome_iff_exists.mp c
  simp only [findObj, c, fa, fg, ft, Option.bind_some]
/-- what isinstance asks of the class of an exception -/
structure XC (K : Frag) (D : Addr) : Prop where
  ga : findIn K (.ref D) "__getattribute__" = some (some (.builtin "BaseException.__getattribute__"))
  gg : findIn K (.ref D) "__getattr__" = some none
  sb : subIn K (.ref D) (.type "BaseException") = some true
  hd : hasDictIn K D = true
  ca : findIn K (.ref D) "__class__" = some (some (.builtin "object.__class__"))
  cn : specialIn K (.builtin "object.__class__") "__get__" = some (some (.builtin "getset_descriptor.__get__"))
  ct : takesIn K (.builtin "object.__class__") = some true
  mo : mroIn K D (.type "object") = some true
theorem XC.cls {K : Frag} {D : Addr} (T : XC K D) : (clsIn K D).isSome = true := by
  obtain ⟨cd, e, _⟩ := any_some T.hd
  simp only [e, Option.isSome_some]
/-- its class, asked of the exception itself, whatever its dict holds -/
theorem own_class {A : Around} {E : Value → Shared → Prop} {s : Shared} {Q : Option Value → Shared → Prop} (T : XC K D) (X : K.In s.heap) (I : InstAt s.heap x ox D od) (q : Q (some (.ref D)) { s with toks := s.toks + 1 }) :
    wpAny (model prog w) A (getAttr? (.ref x) "__class__") Q E s := by
  obtain ⟨hp, gs, dr, tk, os⟩ := s
  have l0 := I.type (M := model prog w)
  have l1 := looks_findIn (M := model prog w) X T.ga
  have l2 := looks_findIn (M := model prog w) X T.gg
  have l3 := looks_find (M := model prog w) X I (bound_any (od := od) T.cls T.ca T.cn T.ct)
  have y1 : (onTheHeap (Value.ref D) && Value.builtin "BaseException.__getattribute__" == Value.builtin "object.__getattribute__") = false := by
    rw [show (Value.builtin "BaseException.__getattribute__" == Value.builtin "object.__getattribute__") = false from by decide +kernel, Bool.and_false]
  unfold getAttr?
  unfold getAttrBy?
  unfold getAttrBy
  refine wpAny_bind (wpAny_mkText (wpAny_bind ?_))
  refine wpAny_attempt (wpAny_holding (wpAny_bind (l0.at ?_)))
  refine wpAny_bind (l1.at ?_)
  show wpAny _ _ (if (onTheHeap (Value.ref D) && Value.builtin "BaseException.__getattribute__" == Value.builtin "object.__getattribute__") = true then _ else _) _ _ _
  rw [y1]
  rw [if_neg Bool.false_ne_true]
  unfold getAttrByItsOwn
  unfold hookBefore
  refine wpAny_bind ?_
  rw [if_pos (show onTheHeap (Value.ref D) = true from rfl)]
  refine l2.at (wpAny_bind (wpAny_attempt (wpAny_holding ?_)))
  unfold callGetattribute
  rw [show (false && onTheHeap (Value.builtin "BaseException.__getattribute__")) = false from rfl, if_neg Bool.false_ne_true]
  unfold boundAndCalled
  rw [PySem.F.excAttr_ValueError.ga.bind (.ref x)]
  refine wpAny_bind (wpAny_pure ?_)
  show wpAny _ _ (call (.builtin "BaseException.__getattribute__") [.ref x, .str "__class__" tk]) _ _ _
  refine wpAny_call (codeAny_call_builtin PySem.F.excAttr_ValueError.ga.plain PySem.F.entry_bexc_ga ?_)
  have sub : Looks (model prog w) hp (isInstance (.ref x) (.type "BaseException")) true := l0.andThen (looks_subIn X T.sb)
  refine @check_slot (model prog w) _ _ ⟨hp, gs, dr, tk + 1, os⟩ "BaseException.__getattribute__" "BaseException" "__getattribute__" (.ref x) [.str "__class__" tk] [] _ (by decide +kernel) (by decide +kernel) sub
    (PySem.F.args_bexc_ga (.ref x) (.str "__class__" tk)) ?_
  unfold Builtin.«object.__getattribute__»
  refine wpAny_bind ?_
  refine wpAny_of_eq (a := ((Value.ref x : Value), [Value.str "__class__" tk])) (by first | rfl | (simp only [slotArgs]; rfl)) ?_
  refine wpAny_bind (wpAny_pure (wpAny_bind (l0.at ?_)))
  refine wpAny_bind (l3.at ?_)
  show wpAny _ _ (holding [Value.builtin "object.__class__"] (call (.builtin "getset_descriptor.__get__") [.builtin "object.__class__", .ref x, .ref D]) >>= ret) _ _ _
  refine wpAny_bind (wpAny_holding (wpAny_call (class_get (s := ⟨hp, gs, dr, tk + 1, os⟩) (od := od) X I T.mo ?_)))
  refine wpAny_pure ?_
  show wpAny _ _ (handedOut (.ref D)) _ _ _
  rw [handedOut_of (v := .ref D) rfl]
  first
    | exact wpAny_pure (wpAny_pure q)
    | exact wpAny_pure q
    | exact wpAny_pure (wpAny_bind (wpAny_pure (wpAny_pure q)))
theorem kit_own (T : XC K D) : KitX K (.ref x) (.ref D) (fun h => InstAt h x ox D od) := by
  obtain ⟨cd, e, _⟩ := any_some T.hd
  have at_ : ∃ c d sl, K.lookup D = some ⟨c, d, .cls cd, sl⟩ := by
    unfold clsIn at e
    split at e
    · rename_i ho
      cases e
      exact ⟨_, _, _, ho⟩
    · cases e
  obtain ⟨c, d, sl, ho⟩ := at_
  refine ⟨fun _ _ _ I => I.type, fun _ _ X _ => ?_, fun h tp dd its n sl' X ht => ?_, fun X I q => own_class T X I q⟩
  · intro A Q E s k q
    unfold isType
    unfold loadHead
    exact wpAny_bind (wpAny_loadPart (k _ _ (X _ _ ho)) (wpAny_pure q))
  · cases z : (Value.ref D == Value.ref tp) with
    | false => rfl
    | true =>
      have e2 : D = tp := Value.ref.inj (beq_iff_eq.mp z)
      have z2 := X _ _ ho
      rw [e2, ht] at z2
      cases z2
end

/-- an exception of the class at C stands at a as a value; what it keeps -/
def XAt (H : Hp) (a C : Addr) : Option (List (Str × V)) → Prop
  | none => H a = some (ExO (.ref C) a)
  | some fs => ∃ d, H a = some (exo a C (some d)) ∧ H d = some (exd d fs)
theorem XAt.same {H H' : Hp} {a C : Addr} {o : Option (List (Str × V))} (s : Same H H') (h : XAt H a C o) : XAt H' a C o := by
  cases o with
  | none => exact s _ _ h
  | some fs =>
    obtain ⟨d, h1, h2⟩ := h
    exact ⟨d, s _ _ h1, s _ _ h2⟩
section
variable {X : Cx} {pins : List (Addr × Obj)} {σ : L2.St} {H : Hp} {s : Shared}
theorem XAt.inst {a C : Addr} {o : Option (List (Str × V))} (I : Inv X pins σ H s) (h : XAt H a C o) : ∃ oe od, PySem.W.InstAt s.heap a oe C od := by
  cases o with
  | none =>
    obtain ⟨⟨oe, vs, e1, e2, e3, _⟩, _⟩ := I.hok a _ h
    exact ⟨oe, none, e1, e2.1, by unfold PySem.W.notCls; rw [e3] <;> rfl, by rw [e2.2]; trivial⟩
  | some fs =>
    obtain ⟨d, h1, h2⟩ := h
    obtain ⟨t1, e1⟩ := exo_at I.hok h1
    obtain ⟨mA, hn, _⟩ := exd_at I.hok h2
    obtain ⟨od, eo, _⟩ := lookIn_ns hn
    exact ⟨_, some od, e1, rfl, rfl, eo⟩
/-- isinstance of an exception that is held as a value -/
theorem call_isiX : CallR X (.builtin "isinstance") (fun xs H Q => ∃ (a C : Addr) (o : Option (List (Str × V))) (c : V) (u : Value) (b : Bool), xs = [.ref a, c] ∧ ClsV c u ∧ XAt H a C o ∧ XC X.K C ∧ PySem.W.kitOne X.K (.ref C) u = some b ∧ Q (.bl b) H) := by
  intro pins s σ H xs us Q I r h
  obtain ⟨a, C, o, c, u, b, rfl, k, x, T, e, q⟩ := h
  obtain ⟨u1, u2, rfl, r1, r2⟩ := vals2 r
  have e2 := k.eq r2
  subst e2
  obtain rfl : u1 = Value.ref a := r1
  obtain ⟨oe, od, J⟩ := x.inst I
  exact PySem.W.kia_one (kit_own T) I.kIn J e (fun z => nomatch z) fun tk => ⟨.bl b, H, I.tok tk, rfl, q⟩
/-- e.f of such an exception -/
def tXv (K : PySem.W.Frag) (f : Str) (te : TE) : TE := fun σ H Q => te σ H fun y H1 => ∃ (a C : Addr) (fs : List (Str × V)) (v : V), y = .ref a ∧ XAt H1 a C (some fs) ∧ XC K C ∧ PySem.W.findIn K (.ref C) f = some none ∧ fs.lookup f = some v ∧ Q v H1
theorem pe_xv {e : Expr} {te : TE} {pos : Pos} {n : Str} (he : PE X e te) (hb : attributeBase e n X.env (eval e X.env) = eval e X.env := by rfl) : PE X (.Attribute e n pos) (tXv X.K n te) := by
  refine ⟨fun pins s σ H Q I h => attr_of hb (thn (he.run pins s σ H _ I h) fun u s1 ⟨y, H1, I1, ry, a, C, fs, v, ey, xa, T, hno, hl, q⟩ => ?_)⟩
  subst ey
  obtain rfl : u = Value.ref a := ry
  obtain ⟨d, h1, h2⟩ := xa
  obtain ⟨t1, e1⟩ := exo_at I1.hok h1
  obtain ⟨mA, hn, rel⟩ := exd_at I1.hok h2
  obtain ⟨od, eo, lk⟩ := lookIn_ns hn
  obtain ⟨v', hu, ru⟩ := RelO.some_of (v := v) (o := mA n) (by rw [← hl]; exact rel n)
  exact HandSPX.exc_get (ox := { cls := .ref C, dict := some d, data := .fields #[.ref t1, .none, .none, .none, .bool false, .none] }) (od := some od) I1.kIn ⟨e1, rfl, rfl, eo⟩ T.ga T.gg T.sb (PySem.W.findObj_own T.hd hno rfl (by rw [lk, hu])) (handed_of ru) ⟨v, H1, I1.tok _, ru, q⟩
/-- C(e, ..), as a value, its own __init__ keeping sp -/
def tMkV (C : Addr) (sp : Sp) (ta : TA) : TE := fun σ H Q => ta σ H fun vs H1 => vs.length ≤ 1000 ∧ ∀ a, H1 a = none → sp (.ref a :: vs) (upd H1 a (exo a C none)) (fun v H2 => v = .non ∧ Q (.ref a) H2) E0
theorem pe_mkv {x : Str} {C fI : Addr} {k : Nat} {fd : FuncData} {ps : List Str} {sp : Sp} {e : Expr} {es : List Expr} {ta : TA} {p pos : Pos} (T : OexC X.K C) (iC : PySem.W.findIn X.K (.ref C) "__init__" = some (some (.ref fI))) (tI : PySem.W.typeIn X.K (.ref fI) = some (.type "function"))
    (F : FnOk X.prog X.w X.K X.mg X.base CX0 k fI fd ps sp) (hr : Room (k + 1) X.A) (hb : Binds X.K fd ps []) (hg : Gl X x) (hm : X.mg x = some (.ref C)) (ha : PA X (e :: es) ta)
    (hdb : (x == ("__debug__" : Str)) = false := by decide) (he : starEach (e :: es) X.env = (false, eval e X.env) :: starEach es X.env := by rfl) (hpl : (backTo pos (starEach es X.env)).any (·.1) = false := by rfl) :
    PE X (.Call (.Name x p) (e :: es) [] pos) (tMkV C sp ta) := by
  refine ⟨fun pins s σ H Q I h => wpAny_Call_Name_kw (ld_glob I hg hm ?_ hdb)⟩
  obtain ⟨nm, q, N, bs, bm, sn, sub, ab, col, dd, k0, k1, k2, k3, k5, hC, hbm⟩ := T.cls
  refine PySem.W.callWith_K (h₀ := X.base) I.ok.mod.kin T.kC (thn (ha.run pos pins s σ H _ I h) fun us s1 ⟨vs, H1, I1, rv, hz, g⟩ => ⟨I1.kIn, ?_⟩) he hpl
  show wpAny _ _ (call (.ref C) us) _ _ _
  obtain ⟨hp, gs, dr, tk, os⟩ := s1
  have new : H1 (hp.objs.size + 1) = none := I1.hok.fresh (Nat.le_succ _)
  have g := g (hp.objs.size + 1) new
  let h2 := (hp.push (PySem.W.kdv_tup us)).push (PySem.HandSPX.excO C hp.objs.size)
  have at2 : h2.get? (hp.objs.size + 1) = some (PySem.HandSPX.excO C hp.objs.size) := by
    show ((hp.push (PySem.W.kdv_tup us)).push (PySem.HandSPX.excO C hp.objs.size)).get? (hp.objs.size + 1) = _
    heap_get
  have I2 : Inv X pins σ (upd H1 (hp.objs.size + 1) (exo (hp.objs.size + 1) C none)) ⟨h2, gs, dr, tk, os⟩ :=
    I1.laid (t' := tk) (a := hp.objs.size + 1) (h' := h2) (fun b o z => Heap.get?_push_of_some _ (Heap.get?_push_of_some _ z)) (Nat.le_succ _) (exo_ok at2)
  have r2 : Vals (V.ref (hp.objs.size + 1) :: vs) (Value.ref (hp.objs.size + 1) :: us) := .cons rfl rv
  have ln : (Value.ref (hp.objs.size + 1) :: us ++ []).length = ps.length := by
    rw [List.append_nil, ← r2.length]
    exact F.len _ _ _ _ g
  have hus : us.length ≤ sizeLine := by
    rw [← Paired.length rv, sizeLine_eq]
    omega
  have bd := hb ⟨h2, gs, dr, tk, os⟩ (Value.ref (hp.objs.size + 1) :: us) I2.kIn ln
  rw [List.append_nil] at bd
  refine wpAny_call (PySem.HandSPX.call_own PySem.F.excBase_ValueError (fun Y => PySem.HandSPX.refsVE_contains Y bm hbm) (I1.kIn _ _ hC) (PySem.W.looks_findIn I1.kIn iC) (fun self => PySem.W.bind_fn I1.kIn self tI) hus ?_)
  refine codeAny_mono (F.run _ X.stack _ _ _ _ _ _ E0 (hr.make C us []) (I2.env0.make C us []) bd r2 g) fun r s' z => ?_
  match r, z with
  | .error er, z => exact z.elim
  | .ok .next, z => exact z.elim
  | .ok .brk, z => exact z.elim
  | .ok .cont, z => exact z.elim
  | .ok (.ret u), ⟨v, H2, o2, b2, un2, ok2, ru, ev, q2⟩ =>
    subst ev
    refine ⟨ru, ?_⟩
    exact I2.after ⟨.ref (hp.objs.size + 1), H2, o2, b2, un2, ok2, rfl, q2⟩
/-- C(), a class without an __init__ of its own -/
theorem pe_mk0 {x : Str} {C : Addr} {p pos : Pos} (q : PySem.W.excIn X.K C [.type "ValueError", .type "Exception", .type "BaseException", .type "object"] "ValueError.__new__" = true) (kC : PySem.W.keepIn X.K (.ref C) = true) (hg : Gl X x) (hm : X.mg x = some (.ref C))
    (hdb : (x == ("__debug__" : Str)) = false := by decide) : PE X (.Call (.Name x p) [] [] pos) (fun _ H Q => ∀ a, H a = none → Q (.ref a) (upd H a (ExO (.ref C) a))) := by
  refine ⟨fun pins s σ H Q I h => wpAny_Call_Name_kw (ld_glob I hg hm (PySem.W.callWith_K0 I.kIn kC ?_) hdb)⟩
  obtain ⟨hp, gs, dr, tk, os⟩ := s
  obtain ⟨bm, N, nm, qn, bs, hdct, sn, sub, ab, col, dd, k0, k1, k2, k3, k5, mN, hC, hN, hni, T⟩ := exc_obj I.kIn q
  refine wpAny_call_exc_subT PySem.F.excBase_ValueError T hC hN hni (fun h' a M => ?_) (by rw [sizeLine_eq]; decide)
  have n : H a = none := I.hok.gone M.new
  obtain ⟨t, e, _, _⟩ := M.there
  exact ⟨.ref a, upd H a (ExO (.ref C) a), I.laidN M.keeps M.new n (exO_ok e ⟨rfl, rfl⟩ rfl rfl rfl (by show 4 < 6; decide)), rfl, h a n⟩
end
end Vf
namespace Vf
open PySem PySem.Spec PyProof.Rows L2
def xcB (K : PySem.W.Frag) (D : Addr) : Bool :=
  decide (PySem.W.findIn K (.ref D) "__getattribute__" = some (some (.builtin "BaseException.__getattribute__"))) && (decide (PySem.W.findIn K (.ref D) "__getattr__" = some none) && (decide (PySem.W.subIn K (.ref D) (.type "BaseException") = some true) &&
  (PySem.W.hasDictIn K D && (decide (PySem.W.findIn K (.ref D) "__class__" = some (some (.builtin "object.__class__"))) && (decide (PySem.W.specialIn K (.builtin "object.__class__") "__get__" = some (some (.builtin "getset_descriptor.__get__"))) &&
  (decide (PySem.W.takesIn K (.builtin "object.__class__") = some true) && decide (PySem.W.mroIn K D (.type "object") = some true)))))))
theorem xcB_ok {K : PySem.W.Frag} {D : Addr} (h : xcB K D = true) : XC K D := by
  obtain ⟨h1, h⟩ := Bool.and_eq_true_iff.mp h
  obtain ⟨h2, h⟩ := Bool.and_eq_true_iff.mp h
  obtain ⟨h3, h⟩ := Bool.and_eq_true_iff.mp h
  obtain ⟨h4, h⟩ := Bool.and_eq_true_iff.mp h
  obtain ⟨h5, h⟩ := Bool.and_eq_true_iff.mp h
  obtain ⟨h6, h⟩ := Bool.and_eq_true_iff.mp h
  obtain ⟨h7, h8⟩ := Bool.and_eq_true_iff.mp h
  exact ⟨of_decide_eq_true h1, of_decide_eq_true h2, of_decide_eq_true h3, h4, of_decide_eq_true h5, of_decide_eq_true h6, of_decide_eq_true h7, of_decide_eq_true h8⟩
end Vf

set_option maxRecDepth 100000
set_option maxHeartbeats 4000000
/-! sizes of texts of data; walks -/
namespace Vf
open PySem PySem.Spec PyProof.Rows L2
/-- good data: shallow, shown in few signs -/
structure Gd (d : PyData) : Prop where
  sh : d.showable = true
  dp : d.depth ≤ 10
  ln : d.shown.length ≤ 100000
theorem gd_none : Gd .none := ⟨rfl, by decide, by simp only [PyData.shown]; decide⟩
theorem gd_bool (b : Bool) : Gd (.bool b) := ⟨rfl, by simp [PyData.depth], by cases b <;> (simp only [PyData.shown]; decide)⟩
theorem log_small {z : Int} (h : z.natAbs < 2 ^ 1920) : z.natAbs.log2 < 1920 := by
  by_cases e : z.natAbs = 0
  · rw [e]
    decide
  · exact (Nat.log2_lt e).mpr h
theorem gd_int {z : Int} (h : z.natAbs < 2 ^ 1920) : Gd (.int z) := by
  have l := log_small h
  refine ⟨by simp only [PyData.showable, l, decide_true], by simp [PyData.depth], ?_⟩
  simp only [PyData.shown]
  exact Nat.le_trans (int_text_len_1921 l) (by decide)
theorem gd_str {x : Str} (h : ∀ c ∈ x.cps.toList, c < 16 ^ 8) (hl : x.length ≤ 9000) : Gd (.str x) := by
  refine ⟨rfl, by simp [PyData.depth], ?_⟩
  simp only [PyData.shown]
  have q := StrLaws.reprText_len x h
  omega
theorem int_codes (z : Int) : ∀ c ∈ (Str.ofString (toString z)).cps.toList, c < 16 ^ 8 := fun c h => by
  by_cases e : c < 58
  · have : (58 : Nat) < 16 ^ 8 := by decide
    omega
  · exact absurd h (int_text_free' c ⟨by omega, by omega⟩ z)
theorem sum_le_of {l : List Nat} {m : Nat} (h : ∀ x ∈ l, x ≤ m) : l.sum ≤ l.length * m := by
  induction l with
  | nil => simp
  | cons a r ih =>
    have h1 := h a (List.mem_cons_self ..)
    have h2 := ih fun x hx => h x (List.mem_cons_of_mem _ hx)
    rw [List.sum_cons, List.length_cons, Nat.add_mul]
    omega
theorem shownAll_map : ∀ ds : List PyData, PyData.shownAll ds = ds.map PyData.shown
  | [] => by simp only [PyData.shownAll, List.map_nil]
  | d :: r => by simp only [PyData.shownAll, List.map_cons, shownAll_map r]
theorem showableAll_of : ∀ {ds : List PyData}, (∀ d ∈ ds, d.showable = true) → PyData.showableAll ds = true
  | [], _ => by simp only [PyData.showableAll]
  | d :: r, h => by
    simp only [PyData.showableAll, h d (List.mem_cons_self ..), showableAll_of fun x hx => h x (List.mem_cons_of_mem _ hx), Bool.and_self]
theorem depthAll_of {m : Nat} : ∀ {ds : List PyData}, (∀ d ∈ ds, d.depth ≤ m) → PyData.depthAll ds ≤ m
  | [], _ => by simp only [PyData.depthAll]; exact Nat.zero_le _
  | d :: r, h => by
    simp only [PyData.depthAll]
    exact Nat.max_le.mpr ⟨h d (List.mem_cons_self ..), depthAll_of fun x hx => h x (List.mem_cons_of_mem _ hx)⟩
/-- few data, each shown in at most m signs -/
theorem seq_len {ds : List PyData} {m : Nat} (h : ∀ d ∈ ds, d.shown.length ≤ m) : (((PyData.shownAll ds).map (·.length)).sum ≤ ds.length * m) ∧ (PyData.shownAll ds).length = ds.length := by
  rw [shownAll_map]
  refine ⟨?_, by rw [List.length_map]⟩
  have q := sum_le_of (l := ((ds.map PyData.shown).map (·.length))) (m := m) (fun x hx => by
    obtain ⟨s, hs, e⟩ := List.mem_map.mp hx
    obtain ⟨d, hd, e2⟩ := List.mem_map.mp hs
    rw [← e, ← e2]
    exact h d hd)
  rw [List.length_map, List.length_map] at q
  exact q
theorem small_seq {ds : List PyData} {n m : Nat} (hn : ds.length ≤ n) (h1 : ∀ d ∈ ds, d.showable = true) (h2 : ∀ d ∈ ds, d.depth ≤ 60) (h3 : ∀ d ∈ ds, d.shown.length ≤ m) (hz : n * m + 2 * n + 3 ≤ 16777216) : small (.list ds) ∧ small (.tuple ds) := by
  obtain ⟨a, b⟩ := seq_len h3
  have c : ds.length * m ≤ n * m := Nat.mul_le_mul_right _ hn
  have d1 := depthAll_of h2
  refine ⟨⟨by simp only [PyData.showable]; exact showableAll_of h1, by simp only [PyData.depth]; omega, ?_⟩, by simp only [PyData.showable]; exact showableAll_of h1, by simp only [PyData.depth]; omega, ?_⟩
  · simp only [PyData.shown]
    have q := listText_len_le (PyData.shownAll ds)
    rw [sizeLine_eq]
    omega
  · simp only [PyData.shown]
    have q := tupleText_len_le (PyData.shownAll ds)
    rw [sizeLine_eq]
    omega
theorem gd_seq {ds : List PyData} {n m : Nat} (hn : ds.length ≤ n) (h1 : ∀ d ∈ ds, d.showable = true) (h2 : ∀ d ∈ ds, d.depth ≤ 9) (h3 : ∀ d ∈ ds, d.shown.length ≤ m) (hz : n * m + 2 * n + 3 ≤ 100000) : Gd (.list ds) ∧ Gd (.tuple ds) := by
  obtain ⟨a, b⟩ := seq_len h3
  have c : ds.length * m ≤ n * m := Nat.mul_le_mul_right _ hn
  have d1 := depthAll_of h2
  refine ⟨⟨by simp only [PyData.showable]; exact showableAll_of h1, by simp only [PyData.depth]; omega, ?_⟩, by simp only [PyData.showable]; exact showableAll_of h1, by simp only [PyData.depth]; omega, ?_⟩
  · simp only [PyData.shown]
    have q := listText_len_le (PyData.shownAll ds)
    omega
  · simp only [PyData.shown]
    have q := tupleText_len_le (PyData.shownAll ds)
    omega
theorem small_of_gd {ds : List PyData} (hn : ds.length ≤ 100) (h : ∀ d ∈ ds, Gd d) : small (.list ds) ∧ small (.tuple ds) :=
  small_seq hn (fun d hd => (h d hd).sh) (fun d hd => Nat.le_trans (h d hd).dp (by decide)) (fun d hd => (h d hd).ln) (by decide)
theorem Gd.small {d : PyData} (h : Gd d) : small d := ⟨h.sh, Nat.le_trans h.dp (by decide), Nat.le_trans h.ln (by rw [sizeLine_eq]; decide)⟩
theorem gd_dict1 {x : Str} {z : Int} (hx : ∀ c ∈ x.cps.toList, c < 16 ^ 8) (hl : x.length ≤ 1000) (h : z.natAbs < 2 ^ 1920) : Gd (.dict [(.str x, .int z)]) := by
  have l := log_small h
  refine ⟨by simp only [PyData.showable, PyData.showableKv, l, decide_true, Bool.and_self], by simp only [PyData.depth, PyData.depthKv]; decide, ?_⟩
  simp only [PyData.shown, PyData.shownKv]
  have q := dictText_len_le [reprText x ++ ": " ++ (Str.ofString (toString z))]
  have r := StrLaws.reprText_len x hx
  have s := int_text_len_1921 l
  simp only [List.map_cons, List.map_nil, List.sum_cons, List.sum_nil, List.length_cons, List.length_nil, strLen_append] at q
  have t : (Str.ofString ": ").length = 2 := by decide +kernel
  refine Nat.le_trans q ?_
  have t2 : ((": " : String) : Str).length = 2 := t
  omega

/-- for i, x in enumerate(a list) -/
theorem for_enumL {K : PySem.W.Frag} {a : Addr} {xs : List V} {g : TG} {tb : TS} {D : Ends} {σ : L2.St} {H : Hp} (Pv : Nat → L2.St → Hp → Prop) (h0 : Pv 0 σ H) (hq : ∀ i σ H, Pv i σ H → SqL K H a xs)
    (hs : ∀ (i : Nat) (x : V) (T : Addr) (σ : L2.St) (H : Hp), xs[i]? = some x → Pv i σ H → H T = none → g (.ref T) σ (upd H T (.tup [.int (i : Nat), x])) fun σ2 H2 => tb { D with nx := Pv (i + 1), ct := Pv (i + 1), bk := D.nx } σ2 H2) (hd : ∀ σ H, Pv xs.length σ H → D.nx σ H) :
    ∃ W : Nat → Nat → L2.St → Hp → Prop, (∃ m, W 0 m σ H) ∧ ∀ i m σ H, W i m σ H →
      ((Ite K a).stop i H ∧ D.nx σ H) ∨ ((Ite K a).go i H ∧ ∃ N : L2.St → Hp → Prop, (∀ σ' H', N σ' H' → ∃ m', m' < m ∧ W (i + 1) m' σ' H') ∧ ∀ v H', (Ite K a).yld i H v H' → g v σ H' fun σ2 H2 => tb { D with nx := N, ct := N, bk := D.nx } σ2 H2) := by
  refine ⟨fun i m σ H => m + i = xs.length ∧ Pv i σ H, ⟨xs.length, rfl, h0⟩, fun i m σ H ⟨e, p⟩ => ?_⟩
  have q := hq i σ H p
  match m, e with
  | 0, e =>
    have e2 : i = xs.length := by omega
    rw [e2] at p ⊢
    exact .inl ⟨⟨xs, q, Nat.le_refl _⟩, hd σ H p⟩
  | m + 1, e =>
    have lt : i < xs.length := by omega
    refine .inr ⟨⟨xs, xs[i], q, List.getElem?_eq_getElem lt⟩, Pv (i + 1), fun σ' H' p' => ⟨m, Nat.lt_succ_self m, by omega, p'⟩, fun v H' y => ?_⟩
    obtain ⟨T, x, e1, n, e2, hx⟩ := y
    rw [e1, e2]
    exact hs i x T σ H (hx xs q) p n
end Vf

set_option maxRecDepth 100000
set_option maxHeartbeats 4000000
/-! rules: several clauses with a name each; // by any great int -/
namespace Vf
open PySem PySem.Spec PyProof.Rows L2
/-- what each clause «except c as n» wishes, n in slot i, from the first one on -/
def wEach (K : PySem.W.Frag) (i : Nat) (Wo : WX) (D : Ends) : List (Value × (Addr → Value → Option Addr → TS)) → WX
  | [] => Wo
  | (c, ts) :: r => wAs K c i ts (wEach K i Wo D r) D
inductive Each (X : Cx) (i : Nat) : List ExceptHandler → List (Value × (Addr → Value → Option Addr → TS)) → Prop
  | nil : Each X i [] []
  | cons {x n : Str} {c : Value} {ts : Addr → Value → Option Addr → TS} {b : Stmt} {bs : List Stmt} {p q : Pos} {hds : List ExceptHandler} {l : List (Value × (Addr → Value → Option Addr → TS))} (nm : Names X x c) (at_ : X.N[i]? = some n) (lo : X.env.kindOf n = some .local)
      (su : ∀ (a : Addr) (oe : Obj) (cls : Value) (d : Option Addr) (pn : List (Addr × Obj)), Zc cls d oe → (∃ vs, oe.data = .fields vs) → PSs (X.suite a ((a, oe) :: pn)) (b :: bs) (ts a cls d)) (t : Each X i hds l) :
      Each X i (.ExceptHandler (some (.Name x p)) (some n) (b :: bs) q :: hds) ((c, ts) :: l)
section
variable {X : Cx} {i : Nat} {body : List Stmt} {h1 : ExceptHandler} {hs : List ExceptHandler} {l : List (Value × (Addr → Value → Option Addr → TS))} {pos : Pos} {tb : WX → TS} {Wo : WX}
/-- try: body / except .. as n: .. / except .. as n: .. -/
theorem ps_try_each (st : X.stack = X.env :: X.outer) (fr : X.env.frame = some X.env.locals) (nd : X.N.Nodup) (tk : Takes X Wo)
    (bd : ∀ (W : WX) (pn : List (Addr × Obj)) (xe : Value → Shared → Prop), Takes (X.tr pn xe) W → PassesOwn (model X.prog X.w) X.A X.env xe → PSs (X.tr pn xe) body (tb W)) (hd : Each X i (h1 :: hs) l) :
    PS X (.Try body (h1 :: hs) [] [] pos) (fun D σ H => tb (wEach X.K i Wo D l) D σ H) := by
  refine ⟨fun pins s σ H D I h => wpAny_Try_except ?_⟩
  have ok := I.ok
  have A1 : X.A.frames = some (X.env :: X.outer) := ok.frames.trans (congrArg some st)
  have run := (bd (wEach X.K i Wo D l) (X.pn ++ pins) (fun e s1 => wpAny (model X.prog X.w) X.A (noteFrame e X.env) (fun _ s2 => wpAny (model X.prog X.w) X.A (setFlight e none) (fun _ s3 => wpAny (model X.prog X.w) X.A (handleBy e X.env (h1 :: hs)) (SP X pins D) X.xe s3) X.xe s2) X.xe s1)
    (fun u s' xx => ?_) PassesOwn.looking).run [] s σ H D (I.toTry _) h
  · refine wpAny_mono run (fun f s1 z => ?_) fun e s1 z => z
    match f, z with
    | .next, ⟨σ', H', J, q⟩ => exact wpAny_execs_nil ⟨σ', H', J.ofTry ok, q⟩
    | .brk, ⟨σ', H', J, q⟩ => exact ⟨σ', H', J.ofTry ok, q⟩
    | .cont, ⟨σ', H', J, q⟩ => exact ⟨σ', H', J.ofTry ok, q⟩
    | .ret u, ⟨v, σ', H', J, r, q⟩ => exact ⟨v, σ', H', J.ofTry ok, r, q⟩
  · obtain ⟨a, B, sI, pins', σ1, H1, cls, d, ea, J', nb, up, sky, na, os, ag, w⟩ := xx
    subst ea
    have J : Inv X pins σ1 H1 sI := J'.ofTry ok
    rw [st] at sky
    show wpAny (model X.prog X.w) X.A (noteFrame (.ref a) X.env) _ _ _
    refine Sky.land Zc.steady A1 fr sky fun h3 fl up3 => ?_
    have J3 : Inv X pins σ1 H1 { s' with heap := h3 } := J.landed nb fl.1 (up.trans up3) os ag
    obtain ⟨oe, vs, he, hz, hdt⟩ := fl.there
    have out : a ∉ frs (X.env :: X.outer) := fun m => by
      obtain ⟨_, o2, e2, ne⟩ := fl.2.2.1.mem m
      rw [he] at e2
      cases e2
      exact ne _ hdt
    have notL : a ≠ X.env.locals := fun z => out (List.mem_filterMap.mpr ⟨X.env, List.mem_cons_self, by rw [fr, z]⟩)
    have notF : a ∉ X.fs := fun m => by
      obtain ⟨e, he, q⟩ := List.mem_filterMap.mp m
      exact out (List.mem_filterMap.mpr ⟨e, List.mem_cons_of_mem _ he, q⟩)
    have S3 := J3.suite he hdt na notL notF
    have ty : PySem.W.Looks (model X.prog X.w) h3 (typeOf (.ref a)) cls := fun A Q E s k q => wpAny_typeOf_ref (k _ _ he) (by rw [hz.1]; exact q)
    have each : ∀ (hs2 : List ExceptHandler) (l2 : List (Value × (Addr → Value → Option Addr → TS))), Each X i hs2 l2 → wEach X.K i Wo D l2 cls d σ1 H1 → wpAny (model X.prog X.w) X.A (handleBy (.ref a) X.env hs2) (SP X pins D) X.xe { s' with heap := h3 } := by
      intro hs2 l2 hk
      induction hk with
      | nil =>
        intro wo
        refine wpAny_handleBy_nil ?_
        obtain ⟨_, _, _, o2, v2, T2, oT2, t2, g1, g2, g3, g4, g5⟩ := id fl
        unfold PySem.passOn
        refine wpAny_bind (wpAny_field g1 g3 g4 ?_)
        rw [if_neg (show ¬ ((Value.ref T2 == Value.none) = true) from by simp)]
        have last : wpAny (model X.prog X.w) X.A (setFlight (.ref a) X.env.frame) (fun _ s4 => wpAny (model X.prog X.w) X.A (throw (.ref a) : Sem Flow) (SP X pins D) X.xe s4) X.xe { s' with heap := h3 } := by
          rw [fr]
          refine HandSPX.setFlight_upZ fl fun h4 up4 u4 => wpAny_throw (tk _ _ ⟨a, B, sI, pins, σ1, H1, cls, d, rfl, J, nb, (up.trans up3).trans u4, .inr (.inr (by rw [st]; exact up4)), na, os, ag, wo⟩)
        first
          | exact wpAny_bind (wpAny_pure (wpAny_bind last))
          | exact wpAny_bind last
      | @cons x n c ts b bs p q hds l3 nm at_ lo su t ih =>
        intro wo
        obtain ⟨k, hk, yes, no⟩ := wo
        refine wpAny_handleBy_cons (codeAny_handlers_test ?_) (by intro q; cases q)
        have LM := PySem.W.exm_one (M := model X.prog X.w) (J3.kIn) ty hk
        have see : ∀ {Q : Value → Shared → Prop} {E : Value → Shared → Prop}, Q c { s' with heap := h3 } → wpAny (model X.prog X.w) (X.A.mark (some (.ref a))) (eval (.Name x p) X.env) Q E { s' with heap := h3 } := by
          intro Q E q
          obtain ⟨g1, g2, g3 | ⟨g3, g4, g5⟩⟩ := nm
          · exact ld_glob (X := X.suite a ((a, oe) :: (X.pn ++ pins))) S3 g1 g3 q g2
          · exact ld_blt (X := X.suite a ((a, oe) :: (X.pn ++ pins))) S3 g1 g3 g4 q g5 g2
        refine see (LM.here ?_)
        cases k with
        | false =>
          show wpAny _ X.A (handleBy (.ref a) X.env hds) _ _ _
          exact ih (no rfl)
        | true =>
          refine codeAny_handlers_suite_as (HandSPX.lands_againZ fl fun h4 fl4 up4 => ?_)
          have J4 : Inv X pins σ1 H1 { s' with heap := h4 } := J.landed nb fl4.1 ((up.trans up3).trans up4) os ag
          obtain ⟨o4, v4, e4, z4, d4⟩ := fl4.there
          have S4 := J4.suite e4 d4 na notL notF
          refine store_ok (X := X.suite a ((a, o4) :: (X.pn ++ pins))) (v := .ref a) S4 nd at_ (.inl lo) rfl (fun s5 S5 => ?_) (.inr lo)
          refine wpAny_mono ((su a o4 cls d (X.pn ++ pins) z4 ⟨_, d4⟩).run [] s5 _ H1 _ S5 (yes rfl a na)) (fun f s6 z => ?_) (fun _ _ z => False.elim z)
          have away : ∀ {σ6 : L2.St} {H6 : Hp} {Q : Shared → Prop}, Inv (X.suite a ((a, o4) :: (X.pn ++ pins))) [] σ6 H6 s6 → (∀ s7, Inv X pins (σ6.set i none) H6 s7 → Q s7) →
              wpAny (model X.prog X.w) X.A (do bindName X.env n .none; unbindBehindTheSuite X.env n q) (fun _ s7 => Q s7) X.xe s6 := fun S6 g => gone_ok (S6.unsuite ok) nd at_ lo g
          match f, z with
          | .next, ⟨σ6, H6, S6, g⟩ => exact away S6 fun s7 J7 => ⟨_, _, J7, g⟩
          | .brk, ⟨σ6, H6, S6, g⟩ => exact away S6 fun s7 J7 => ⟨_, _, J7, g⟩
          | .cont, ⟨σ6, H6, S6, g⟩ => exact away S6 fun s7 J7 => ⟨_, _, J7, g⟩
          | .ret u, ⟨v6, σ6, H6, S6, r6, g⟩ => exact away S6 fun s7 J7 => ⟨_, _, _, J7, r6, g⟩
    exact each _ _ hd w
end
/-- // by an int that is not 0, below 2 ^ 9000 in size -/
def CDivZ (_ j : Int) : Prop := j ≠ 0 ∧ j.natAbs.log2 < 9000
theorem op_fdivZ {X : Cx} : OpR X (binaryOp .FloorDiv) (rI CDivZ fun i j => .int (i.fdiv j)) := opI fun i j _ _ _ _ _ hc q => floordiv_int hc.1 q (.inl (PyProof.noPylong_of_log2 hc.2))
end Vf

/-! ratios: the mathematics -/
namespace Vf
/-- the greatest common divisor, with the sign of the bottom -/
def sg (t b : Int) : Int := if b < 0 then -((Nat.gcd t.natAbs b.natAbs : Nat) : Int) else ((Nat.gcd t.natAbs b.natAbs : Nat) : Int)
/-- in lowest terms -/
def low (t b : Int) : Int × Int := (t.fdiv (sg t b), b.fdiv (sg t b))
theorem fdiv_of_mul {s k : Int} (h : s ≠ 0) : (s * k).fdiv s = k := Int.mul_fdiv_cancel_left k h
theorem gcd_pos {t b : Int} (h : b ≠ 0) : 0 < Nat.gcd t.natAbs b.natAbs := Nat.gcd_pos_of_pos_right _ (by omega)
theorem sg_ne {t b : Int} (h : b ≠ 0) : sg t b ≠ 0 := by
  have g := gcd_pos (t := t) h
  unfold sg
  split <;> omega
/-- t and b are the sign's multiples -/
theorem sg_dvd {t b : Int} (h : b ≠ 0) : ∃ t' b' : Int, t = sg t b * t' ∧ b = sg t b * b' ∧ 0 < b' ∧ Nat.gcd t'.natAbs b'.natAbs = 1 := by
  have g := gcd_pos (t := t) h
  generalize hG : Nat.gcd t.natAbs b.natAbs = G at g
  have d1 : ((G : Nat) : Int) ∣ t := Int.ofNat_dvd_left.mpr (by rw [← hG]; exact Nat.gcd_dvd_left _ _)
  have d2 : ((G : Nat) : Int) ∣ b := Int.ofNat_dvd_left.mpr (by rw [← hG]; exact Nat.gcd_dvd_right _ _)
  obtain ⟨x, hx⟩ := d1
  obtain ⟨y, hy⟩ := d2
  have one : Nat.gcd x.natAbs y.natAbs = 1 := by
    have e1 : t.natAbs = G * x.natAbs := by rw [hx, Int.natAbs_mul, Int.natAbs_natCast]
    have e2 : b.natAbs = G * y.natAbs := by rw [hy, Int.natAbs_mul, Int.natAbs_natCast]
    have e3 : Nat.gcd (G * x.natAbs) (G * y.natAbs) = G * Nat.gcd x.natAbs y.natAbs := Nat.gcd_mul_left _ _ _
    rw [← e1, ← e2, hG] at e3
    have e4 : G * 1 = G * Nat.gcd x.natAbs y.natAbs := by omega
    exact (Nat.eq_of_mul_eq_mul_left g e4).symm
  have gp : (0 : Int) < (G : Int) := by omega
  have sg_e : sg t b = if b < 0 then -(G : Int) else (G : Int) := by unfold sg; rw [hG]
  by_cases hb : b < 0
  · refine ⟨-x, -y, ?_, ?_, ?_, ?_⟩
    · rw [sg_e, if_pos hb, Int.neg_mul_neg]; exact hx
    · rw [sg_e, if_pos hb, Int.neg_mul_neg]; exact hy
    · rw [hy] at hb
      have : y < 0 := by
        rcases Int.lt_or_le y 0 with z | z
        · exact z
        · have := Int.mul_nonneg (Int.le_of_lt gp) z
          omega
      omega
    · rw [Int.natAbs_neg, Int.natAbs_neg]; exact one
  · refine ⟨x, y, ?_, ?_, ?_, one⟩
    · rw [sg_e, if_neg hb]; exact hx
    · rw [sg_e, if_neg hb]; exact hy
    · rcases Int.lt_or_le 0 y with z | z
      · exact z
      · have h2 : (G : Int) * y ≤ 0 := Int.mul_nonpos_of_nonneg_of_nonpos (Int.le_of_lt gp) z
        rw [← hy] at h2
        omega
theorem low_eq {t b t' b' : Int} (h : b ≠ 0) (e1 : t = sg t b * t') (e2 : b = sg t b * b') : low t b = (t', b') := by
  have s := sg_ne (t := t) h
  unfold low
  have a1 : t.fdiv (sg t b) = t' := by
    have z := fdiv_of_mul (s := sg t b) (k := t') s
    rw [← e1] at z
    exact z
  have a2 : b.fdiv (sg t b) = b' := by
    have z := fdiv_of_mul (s := sg t b) (k := b') s
    rw [← e2] at z
    exact z
  rw [a1, a2]
/-- in lowest terms: its bottom is above 0, nothing is common -/
structure Low (t b : Int) : Prop where
  pos : 0 < b
  one : Nat.gcd t.natAbs b.natAbs = 1
theorem low_is {t b : Int} (h : b ≠ 0) : Low (low t b).1 (low t b).2 := by
  obtain ⟨x, y, e1, e2, hp, ho⟩ := sg_dvd (t := t) h
  rw [low_eq h e1 e2]
  exact ⟨hp, ho⟩
theorem low_id {t b : Int} (h : Low t b) : low t b = (t, b) := by
  have hb : b ≠ 0 := by have := h.pos; omega
  have e : sg t b = 1 := by unfold sg; rw [h.one, if_neg (by have := h.pos; omega)]; rfl
  exact low_eq hb (by rw [e, Int.one_mul]) (by rw [e, Int.one_mul])
theorem sg_scale {t b k : Int} (hk : 0 < k) : sg (t * k) (b * k) = sg t b * k := by
  have e : Nat.gcd (t * k).natAbs (b * k).natAbs = Nat.gcd t.natAbs b.natAbs * k.natAbs := by
    rw [Int.natAbs_mul, Int.natAbs_mul, Nat.gcd_mul_right]
  have ek : ((k.natAbs : Nat) : Int) = k := by omega
  unfold sg
  rw [e]
  by_cases hb : b < 0
  · have : b * k < 0 := Int.mul_neg_of_neg_of_pos hb hk
    rw [if_pos hb, if_pos this, Int.natCast_mul, ek, Int.neg_mul]
  · have : ¬ b * k < 0 := by
      have := Int.mul_nonneg (show (0 : Int) ≤ b by omega) (Int.le_of_lt hk)
      omega
    rw [if_neg hb, if_neg this, Int.natCast_mul, ek]
theorem low_scale {t b k : Int} (h : b ≠ 0) (hk : 0 < k) : low (t * k) (b * k) = low t b := by
  obtain ⟨x, y, e1, e2, _, _⟩ := sg_dvd (t := t) h
  have hbk : b * k ≠ 0 := Int.mul_ne_zero h (by omega)
  rw [low_eq h e1 e2]
  refine low_eq hbk ?_ ?_
  · rw [sg_scale hk, Int.mul_assoc, Int.mul_comm k x, ← Int.mul_assoc, ← e1]
  · rw [sg_scale hk, Int.mul_assoc, Int.mul_comm k y, ← Int.mul_assoc, ← e2]
/-- a ratio k times over is the ratio -/
theorem low_back {t b k : Int} (h : Low t b) (hk : 0 < k) : low (t * k) (b * k) = (t, b) := by
  rw [low_scale (by have := h.pos; omega) hk, low_id h]
theorem low_size {t b : Int} (h : b ≠ 0) : (low t b).1.natAbs ≤ t.natAbs ∧ (low t b).2.natAbs ≤ b.natAbs := by
  obtain ⟨x, y, e1, e2, _, _⟩ := sg_dvd (t := t) h
  rw [low_eq h e1 e2]
  have s : 0 < (sg t b).natAbs := by have := sg_ne (t := t) h; omega
  have a1 : t.natAbs = (sg t b).natAbs * x.natAbs := by rw [← Int.natAbs_mul, ← e1]
  have a2 : b.natAbs = (sg t b).natAbs * y.natAbs := by rw [← Int.natAbs_mul, ← e2]
  rw [a1, a2]
  exact ⟨Nat.le_mul_of_pos_left _ s, Nat.le_mul_of_pos_left _ s⟩
theorem low_val {t b : Int} (h : b ≠ 0) : t * (low t b).2 = (low t b).1 * b := by
  obtain ⟨x, y, e1, e2, _, _⟩ := sg_dvd (t := t) h
  rw [low_eq h e1 e2]
  generalize sg t b = s at e1 e2
  rw [e1, e2]
  show s * x * y = x * (s * y)
  rw [Int.mul_comm s x, Int.mul_assoc]
theorem sg_size {t b : Int} (h : b ≠ 0) : (sg t b).natAbs ≤ b.natAbs := by
  have e : (sg t b).natAbs = Nat.gcd t.natAbs b.natAbs := by
    unfold sg
    split
    · rw [Int.natAbs_neg, Int.natAbs_natCast]
    · rw [Int.natAbs_natCast]
  rw [e]
  exact Nat.le_of_dvd (by omega) (Nat.gcd_dvd_right _ _)
/-- Euclid's laps: what holds ahead of the i-th -/
structure Lap (G P : Nat) (i : Nat) (a b : Int) : Prop where
  a0 : 0 ≤ a
  b0 : 0 ≤ b
  g : Nat.gcd a.natAbs b.natAbs = G
  le : i = 0 ∨ b ≤ a
  sm : a.natAbs * b.natAbs * 2 ^ (i - 1) ≤ P
theorem lap0 (x y : Int) : Lap (Nat.gcd x.natAbs y.natAbs) (x.natAbs * y.natAbs) 0 (if x < 0 then -x else x) (if y < 0 then -y else y) := by
  have e : ∀ z : Int, (if z < 0 then -z else z) = ((z.natAbs : Nat) : Int) := fun z => by split <;> omega
  rw [e, e]
  exact ⟨by omega, by omega, by rw [Int.natAbs_natCast, Int.natAbs_natCast], .inl rfl, by rw [Int.natAbs_natCast, Int.natAbs_natCast]; simp⟩
theorem lap_next {G P i : Nat} {a b : Int} (h : Lap G P i a b) (hb : b ≠ 0) : Lap G P (i + 1) b (a % b) := by
  have b1 : 0 < b := by have := h.b0; omega
  have r0 := Int.emod_nonneg a hb
  have r1 := Int.emod_lt_of_pos a b1
  obtain ⟨x, rfl⟩ := Int.eq_ofNat_of_zero_le h.a0
  obtain ⟨y, rfl⟩ := Int.eq_ofNat_of_zero_le h.b0
  have em : ((x : Int) % (y : Int)) = ((x % y : Nat) : Int) := by omega
  refine ⟨by omega, r0, ?_, .inr (by omega), ?_⟩
  · rw [em, Int.natAbs_natCast, Int.natAbs_natCast]
    have g := h.g
    rw [Int.natAbs_natCast, Int.natAbs_natCast] at g
    rw [Nat.gcd_comm, ← Nat.gcd_rec, Nat.gcd_comm]
    exact g
  · have s := h.sm
    rw [em]
    rw [Int.natAbs_natCast, Int.natAbs_natCast] at s ⊢
    rw [Nat.add_sub_cancel]
    have y1 : 0 < y := by omega
    rcases h.le with z | z
    · rw [z] at s ⊢
      simp only [Nat.zero_sub, Nat.pow_zero, Nat.mul_one] at s ⊢
      have : x % y ≤ x := Nat.mod_le _ _
      calc y * (x % y) ≤ y * x := Nat.mul_le_mul_left _ this
        _ = x * y := Nat.mul_comm _ _
        _ ≤ P := s
    · have hxy : y ≤ x := by omega
      have hm : 2 * (x % y) ≤ x := by
        have q := Nat.div_add_mod x y
        have q1 : 1 ≤ x / y := (Nat.le_div_iff_mul_le y1).mpr (by omega)
        have q2 : y * 1 ≤ y * (x / y) := Nat.mul_le_mul_left _ q1
        have q3 := Nat.mod_lt x y1
        omega
      by_cases hi : i = 0
      · rw [hi] at s ⊢
        simp only [Nat.zero_sub, Nat.pow_zero, Nat.mul_one] at s ⊢
        have : x % y ≤ x := Nat.mod_le _ _
        calc y * (x % y) ≤ y * x := Nat.mul_le_mul_left _ this
          _ = x * y := Nat.mul_comm _ _
          _ ≤ P := s
      · have ei : 2 ^ i = 2 * 2 ^ (i - 1) := by
          have : i = (i - 1) + 1 := by omega
          rw [this, Nat.pow_succ, Nat.add_sub_cancel, Nat.mul_comm]
        rw [ei]
        calc y * (x % y) * (2 * 2 ^ (i - 1)) = (2 * (x % y)) * (y * 2 ^ (i - 1)) := by
              rw [Nat.mul_comm y (x % y), Nat.mul_assoc, Nat.mul_left_comm y 2, ← Nat.mul_assoc (x % y) 2, Nat.mul_comm (x % y) 2]
          _ ≤ x * (y * 2 ^ (i - 1)) := Nat.mul_le_mul_right _ hm
          _ = x * y * 2 ^ (i - 1) := by rw [Nat.mul_assoc]
          _ ≤ P := s
theorem lap_end {G P i : Nat} {a b : Int} (h : Lap G P i a b) (hb : b = 0) : a = ((G : Nat) : Int) := by
  have g := h.g
  rw [hb] at g
  have e : Nat.gcd a.natAbs (0 : Int).natAbs = a.natAbs := Nat.gcd_zero_right _
  rw [e] at g
  have := h.a0
  omega
theorem lap_over {G P : Nat} {i : Nat} {a b : Int} (h : Lap G P i a b) (hi : 0 < i) (hP : P < 2 ^ (i - 1)) : b = 0 := by
  have s := h.sm
  have l : b ≤ a := by rcases h.le with z | z <;> omega
  rcases Nat.eq_zero_or_pos (a.natAbs * b.natAbs) with z | z
  · rcases Nat.mul_eq_zero.mp z with z | z
    · have := h.b0; omega
    · omega
  · have : 1 * 2 ^ (i - 1) ≤ a.natAbs * b.natAbs * 2 ^ (i - 1) := Nat.mul_le_mul_right _ z
    omega
end Vf

set_option maxRecDepth 100000
set_option maxHeartbeats 8000000
namespace Vf
open PySem PySem.Spec PyProof.Rows L2
def topS (i : Nat) : Stmt := PySem.Challenge.pw_nearcurves_k09_whole_corners.main.body.getD i (.Pass ⟨0, 0, 0, 0⟩)
/-! ### the pen -/
def penL (l : Addr) (at_ dg ct fo : Int) : List (Key × V) := [(.inr "cells", .ref l), (.inr "at", .int at_), (.inr "digits", .int dg), (.inr "count", .int ct), (.inr "fold", .int fo)]
section
variable {l : Addr} {a d c f x : Int}
theorem pv1 : valV (penL l a d c f) (.inr "cells") = some (.ref l) := by kernel_rfl
theorem pv2 : valV (penL l a d c f) (.inr "at") = some (.int a) := by kernel_rfl
theorem pv3 : valV (penL l a d c f) (.inr "digits") = some (.int d) := by kernel_rfl
theorem pv4 : valV (penL l a d c f) (.inr "count") = some (.int c) := by kernel_rfl
theorem pv5 : valV (penL l a d c f) (.inr "fold") = some (.int f) := by kernel_rfl
theorem pp2 : putK (penL l a d c f) (.inr "at") (.int x) = penL l x d c f := by kernel_rfl
theorem pp3 : putK (penL l a d c f) (.inr "digits") (.int x) = penL l a x c f := by kernel_rfl
theorem pp4 : putK (penL l a d c f) (.inr "count") (.int x) = penL l a d x f := by kernel_rfl
theorem pp5 : putK (penL l a d c f) (.inr "fold") (.int x) = penL l a d c x := by kernel_rfl
theorem pm : mergeK [] [(.inr "cells", .ref l), (.inr "at", .int 0), (.inr "digits", .int 0), (.inr "count", .int 0), (.inr "fold", .int f)] = penL l 0 0 0 f := by kernel_rfl
end
/-- a pen at p that has been asked at most B times -/
structure PenC (at_ dg ct fo B : Int) : Prop where
  a0 : 0 ≤ at_
  d0 : 0 ≤ dg
  c0 : 0 ≤ ct
  cB : ct ≤ B
  f0 : 0 ≤ fo
  f1 : fo < 2147483587
def PenAt (H : Hp) (p l : Addr) (ns : List Int) (at_ dg ct fo : Int) : Prop := H p = some (.dK (penL l at_ dg ct fo)) ∧ H l = some (.lst (ns.map V.int)) ∧ ns.length ≤ 63
def Pen (H : Hp) (p l : Addr) (B : Int) : Prop := ∃ ns at_ dg ct fo, PenAt H p l ns at_ dg ct fo ∧ PenC at_ dg ct fo B
/-- all but p stands as it stood -/
def Kp (p : Addr) (H H' : Hp) : Prop := ∀ b o, b ≠ p → H b = some o → H' b = some o
theorem Kp.refl {p : Addr} {H : Hp} : Kp p H H := fun _ _ _ h => h
theorem Kp.trans {p : Addr} {H H1 H2 : Hp} (a : Kp p H H1) (b : Kp p H1 H2) : Kp p H H2 := fun c o n h => b c o n (a c o n h)
theorem Kp.of {p : Addr} {H H' : Hp} (s : Same H H') : Kp p H H' := fun b o _ h => s b o h
theorem same_upd {H : Hp} {p : Addr} {o : HO} (n : H p = none) : Same H (upd H p o) := fun b u e => by rw [upd_ne (ne_of_none e n)]; exact e
/-- the heap without p -/
def wo (p : Addr) (H : Hp) : Hp := fun b => if b = p then none else H b
theorem Kp.wo {p : Addr} {H H' : Hp} (k : Kp p H H') : Same (wo p H) (wo p H') := fun b o e => by
  unfold Vf.wo at e ⊢
  by_cases h : b = p
  · rw [if_pos h] at e
    cases e
  · rw [if_neg h] at e ⊢
    exact k b o h e
theorem wo_sub {p : Addr} {H : Hp} : Same (wo p H) H := fun b o e => by
  unfold Vf.wo at e
  by_cases h : b = p
  · rw [if_pos h] at e
    cases e
  · rw [if_neg h] at e
    exact e
theorem wo_at {p b : Addr} {H : Hp} {o : HO} (h : b ≠ p) (e : H b = some o) : wo p H b = some o := by
  unfold Vf.wo
  rw [if_neg h]
  exact e
theorem PenAt.ne {H : Hp} {p l : Addr} {ns : List Int} {a d c f : Int} (h : PenAt H p l ns a d c f) : l ≠ p := ne_of h.2.1 h.1 (by intro z; cases z)
theorem PenAt.same {H H' : Hp} {p l : Addr} {ns : List Int} {a d c f : Int} (h : PenAt H p l ns a d c f) (s : Same H H') : PenAt H' p l ns a d c f := ⟨s _ _ h.1, s _ _ h.2.1, h.2.2⟩
theorem Pen.same {H H' : Hp} {p l : Addr} {B : Int} (h : Pen H p l B) (s : Same H H') : Pen H' p l B := by
  obtain ⟨ns, a, d, c, f, h1, h2⟩ := h
  exact ⟨ns, a, d, c, f, h1.same s, h2⟩
theorem Pen.more {H : Hp} {p l : Addr} {B B' : Int} (h : Pen H p l B) (e : B ≤ B') : Pen H p l B' := by
  obtain ⟨ns, a, d, c, f, h1, h2⟩ := h
  exact ⟨ns, a, d, c, f, h1, h2.a0, h2.d0, h2.c0, Int.le_trans h2.cB e, h2.f0, h2.f1⟩
theorem Pen.there {H : Hp} {p l : Addr} {B : Int} (h : Pen H p l B) : ∃ o, H p = some o := by
  obtain ⟨ns, a, d, c, f, h1, h2⟩ := h
  exact ⟨_, h1.1⟩
theorem PenAt.put {H : Hp} {p l : Addr} {ns : List Int} {a d c f a' d' c' f' : Int} (h : PenAt H p l ns a d c f) : PenAt (upd H p (.dK (penL l a' d' c' f'))) p l ns a' d' c' f' :=
  ⟨upd_same, by rw [upd_ne h.ne]; exact h.2.1, h.2.2⟩
theorem kp_upd {H : Hp} {p : Addr} {o : HO} : Kp p H (upd H p o) := fun b u n e => by rw [upd_ne n]; exact e

def spPen (K : PySem.W.Frag) : Sp := fun vs H Q _ => ∃ (a : Addr) (ns : List Int), vs = [.ref a] ∧ SqL K H a (ns.map V.int) ∧ ns.length ≤ 63 ∧ ∀ (p l : Addr) (H' : Hp), Same H H' → H p = none → H l = none → Pen H' p l 0 → Q (.ref p) H'
def spDraw : Sp := fun vs H Q _ => ∃ (p l : Addr) (B many : Int), vs = [.ref p, .int many] ∧ Pen H p l B ∧ B ≤ 1000000000 ∧ 0 < many ∧ many < 2000000000000000000000000000000000 ∧
  ∀ (z : Int) (H' : Hp), 0 ≤ z → z < many → Pen H' p l (B + 1) → Kp p H H' → Q (.int z) H'
def spPick : Sp := fun vs H Q _ => ∃ (p l s : Addr) (B : Int) (xs : List V), vs = [.ref p, .ref s] ∧ Pen H p l B ∧ B ≤ 1000000000 ∧ H s = some (.lst xs) ∧ s ≠ p ∧ 0 < xs.length ∧ xs.length < 1000000 ∧
  ∀ (x : V) (H' : Hp), x ∈ xs → Pen H' p l (B + 1) → Kp p H H' → Q x H'
def spFar : Sp := fun vs H Q _ => ∃ (p l : Addr) (B : Int), vs = [.ref p] ∧ Pen H p l B ∧ B ≤ 100000000 ∧
  ∀ (z : Int) (H' : Hp), -1000000000000000000 < z → z < 1000000000000000000 → Pen H' p l (B + 8) → Kp p H H' → Q (.int z) H'
/-- built-in names that the text leaves alone -/
structure Bi (mg : Str → Option Value) : Prop where
  int : mg "int" = none
  list : mg "list" = none
  len : mg "len" = none
  range : mg "range" = none
/-- a def of the text that raises nothing -/
structure Df (P : Program) (w : World) (K : PySem.W.Frag) (mg : Str → Option Value) (base : Heap) (x : Str) (k : Nat) (ps : List Str) (sp : Sp) where
  f : Addr
  fd : FuncData
  m : mg x = some (.ref f)
  kp : PySem.W.keepIn K (.ref f) = true
  b : Binds K fd ps []
  ok : FnOk P w K mg base CX0 k f fd ps sp

abbrev sPen : Stmt := topS 43
abbrev sDraw : Stmt := topS (43 + 1)
abbrev sPick : Stmt := topS (43 + 2)
section
variable {P : Program} {w : World} {K : PySem.W.Frag} {mg : Str → Option Value} {base : Heap}
theorem scPen : FnScope ["_law_script", "_law_fold", "_law_cell"] ["_law_script"] (defScope sPen) := ⟨rfl, rfl, rfl, by decide +kernel, rfl, by decide +kernel, by decide +kernel⟩
theorem ok_pen {f : Addr} {fd : FuncData} (F : Fun K "_law_pen" "_law_pen" sPen f fd) (T : Bi mg) : FnOk P w K mg base CX0 1 f fd ["_law_script"] (spPen K) := by
  refine F.ok scPen (fun vs H Q E h => ?_) (fun cdv A outer s H vs Q E hr h => ?_)
  · obtain ⟨a, ns, rfl, _⟩ := h
    rfl
  · obtain ⟨a, ns, rfl, hS, hl, k⟩ := h
    refine ⟨_, (pss_cons (ps_set (i := 1) scPen.nd rfl (Or.inl rfl) pe_int)
      (pss_cons (ps_for PassesOwn.never rfl (pi_list (pv 0)) (pg_name (i := 2) scPen.nd rfl (Or.inl rfl))
        (pss_one (ps_set (i := 1) scPen.nd rfl (Or.inl rfl) (pe_op op_mod (pe_callTy call_int1 (by rfl) T.int (by decide +kernel) (pa_cons (pe_op op_add (pe_op op_mul (pv 1) pe_int) (pv 2)) pa_nil)) pe_int))))
      (pss_one (ps_ret (pe_disp (pps_cons pe_str (pe_callTy call_list_of (by rfl) T.list (by decide +kernel) (pa_cons (pv 0) pa_nil)) (pps_cons pe_str pe_int (pps_cons pe_str pe_int (pps_cons pe_str pe_int (pps_cons pe_str (pv 1) pps_nil))))) (by rfl) (by rfl) (fun z => by cases z) (by decide)))))), ?_⟩
    refine ⟨_, rfl, a, rfl, ⟨_, hS⟩, for_list (K := K) (a := a) (xs := ns.map V.int) (fun i σ H2 => H2 = H ∧ ∃ (z : Int) (v : Option V), σ = [some (.ref a), some (.int z), v] ∧ 0 ≤ z ∧ z < 1000000007)
      ⟨rfl, 0, none, rfl, by decide, by decide⟩ (fun i σ H2 _ ⟨e, _⟩ => by rw [e]; exact hS) ?_ ?_⟩
    · rintro i y σ H2 hi ⟨rfl, z, v, rfl, h0, h1⟩
      obtain ⟨n, rfl⟩ : ∃ n, y = V.int n := by
        rw [List.getElem?_map] at hi
        cases e : ns[i]? with
        | none =>
          rw [e] at hi
          cases hi
        | some n =>
          rw [e] at hi
          exact ⟨n, (Option.some.inj hi).symm⟩
      refine ⟨_, rfl, _, _, rfl, rfl, .inl ⟨by omega, by omega⟩, _, rfl, _, _, rfl, rfl, .inl ⟨_, rfl, _, _, rfl, rfl, (by show (0 : Int) < 1000000007; decide), ?_⟩⟩
      exact ⟨rfl, _, _, rfl, Int.emod_nonneg _ (by decide), Int.emod_lt_of_pos _ (by decide)⟩
    · rintro σ H2 ⟨rfl, z, v, rfl, h0, h1⟩
      intro p np
      refine ⟨_, rfl, a, _, rfl, .inl ((same_upd np).seq hS), fun l nl => ?_⟩
      refine ⟨_, rfl, ?_⟩
      have npl : p ≠ l := ne_of_none upd_same nl
      refine ⟨by rw [upd_ne npl]; exact upd_same, [(.inr "cells", .ref l), (.inr "at", .int 0), (.inr "digits", .int 0), (.inr "count", .int 0), (.inr "fold", .int z)], rfl, (by show 5 ≤ 15; decide), ?_⟩
      rw [pm]
      have nl2 : H2 l = none := by
        have q := nl
        rw [upd_ne npl.symm] at q
        exact q
      refine k p l _ (fun b o e => ?_) np nl2 ⟨ns, 0, 0, 0, z, ⟨upd_same, by rw [upd_ne npl.symm]; exact upd_same, hl⟩, by decide, by decide, by decide, by decide, h0, by omega⟩
      rw [upd_ne (ne_of_none e np), upd_ne (ne_of_none e nl2), upd_ne (ne_of_none e np)]
      exact e
theorem scDraw : FnScope ["_law_pen_here", "_law_many", "_law_cell", "_law_digit", "_law_mixed"] ["_law_pen_here", "_law_many"] (defScope sDraw) := ⟨rfl, rfl, rfl, by decide +kernel, rfl, by decide +kernel, by decide +kernel⟩
theorem ok_draw {f : Addr} {fd : FuncData} (F : Fun K "_law_draw" "_law_draw" sDraw f fd) (T : Bi mg) : FnOk P w K mg base CX0 1 f fd ["_law_pen_here", "_law_many"] spDraw := by
  refine F.ok scDraw (fun vs H Q E h => ?_) (fun cdv A outer s H vs Q E hr h => ?_)
  · obtain ⟨p, l, B, m, rfl, _⟩ := h
    rfl
  · obtain ⟨p, l, B, m, rfl, ⟨ns, a0, d0, c0, f0, hP, hC⟩, hB, hm0, hm1, k⟩ := h
    have hu := hu_of hr
    have small : ∀ {l : Addr} {a d c f : Int}, (penL l a d c f).length < sizeLine := by intros; show 5 < sizeLine; decide
    refine ⟨_, (pss_cons (ps_dput hu (pv 0) pe_str (pe_op op_add (pe_dget hu (pv 0) pe_str (fun _ _ => rfl)) pe_int) rfl)
  (C8.pss_cut (ps_if (PW.pt (pw_and (pt_cmpR op_eq (pe_dget hu (pv 0) pe_str (fun _ _ => rfl)) pe_int (nomark _)) (pw_and1 (pt_cmpR op_lt (pe_dget hu (pv 0) pe_str (fun _ _ => rfl)) (pe_callB call_len_seq (by rfl) T.len (by decide +kernel) (pa_cons (pe_dget hu (pv 0) pe_str (fun _ _ => rfl)) pa_nil)) (nomark _)))))
    (pss_cons (ps_set (i := 2) scDraw.nd rfl (Or.inl rfl) (pe_ix ix_list (pe_dget hu (pv 0) pe_str (fun _ _ => rfl)) (pe_dget hu (pv 0) pe_str (fun _ _ => rfl)) (fun _ _ => rfl)))
    (pss_cons (ps_dput hu (pv 0) pe_str (pe_op op_add (pe_dget hu (pv 0) pe_str (fun _ _ => rfl)) pe_int) rfl)
    (pss_one (ps_if (pt_cmpR op_ge (pv 2) (pe_op op_pow pe_int pe_int) (nomark _))
      (pss_one (ps_dput hu (pv 0) pe_str (pe_op op_sub (pv 2) (pe_op op_pow pe_int pe_int)) rfl))
      (pss_one (ps_dput hu (pv 0) pe_str (pe_op op_mod (pe_callTy call_int1 (by rfl) T.int (by decide +kernel) (pa_cons (pe_op op_add (pe_op op_mul (pe_dget hu (pv 0) pe_str (fun _ _ => rfl)) pe_int) (pv 2)) pa_nil)) pe_int) rfl))))))
    pss_nil)
  (pss_cons (ps_if (pt_cmpR op_gt (pe_dget hu (pv 0) pe_str (fun _ _ => rfl)) pe_int (nomark _))
    (pss_cons (ps_set (i := 3) scDraw.nd rfl (Or.inl rfl) (pe_op op_mod (pe_callTy call_int1 (by rfl) T.int (by decide +kernel) (pa_cons (pe_dget hu (pv 0) pe_str (fun _ _ => rfl)) pa_nil)) (pv 1)))
    (pss_cons (ps_dput hu (pv 0) pe_str (pe_op op_fdivZ (pe_dget hu (pv 0) pe_str (fun _ _ => rfl)) (pv 1)) rfl)
    (pss_one (ps_ret (pv 3)))))
    pss_nil)
  (pss_cons (ps_set (i := 4) scDraw.nd rfl (Or.inl rfl) (pe_op op_add (pe_op op_add (pe_dget hu (pv 0) pe_str (fun _ _ => rfl)) (pe_op op_mul (pe_dget hu (pv 0) pe_str (fun _ _ => rfl)) pe_int)) pe_int))
  (pss_one (ps_ret (pe_op op_mod (pe_op op_fdiv (pe_callTy call_int1 (by rfl) T.int (by decide +kernel) (pa_cons (pe_op op_mod (pe_op op_pow (pv 4) pe_int) pe_int) pa_nil)) pe_int) (pv 1)))))))), ?_⟩
    -- count
    refine ⟨_, rfl, p, .int c0, rfl, ?_, _, _, rfl, rfl, _, rfl, p, _, rfl, DPut.k (k := Sum.inr "count") hP.1 small, ?_⟩
    · have q := DGet.k (k := (Sum.inr "count" : Key)) hP.1
      rw [pv4] at q
      exact q
    rw [pp4]
    have hP1 := hP.put (a' := a0) (d' := d0) (c' := c0 + 1) (f' := f0)
    generalize hH1 : upd H p (.dK (penL l a0 d0 (c0 + 1) f0)) = H1 at hP1
    have k1 : Kp p H H1 := by rw [← hH1]; exact kp_upd
    clear hH1
    -- the cut: a pen again
    refine ⟨fun σ H2 => ∃ (v2 : Option V) (a d c f : Int), σ = [some (.ref p), some (.int m), v2, none, none] ∧ PenAt H2 p l ns a d c f ∧ PenC a d c f (B + 1) ∧ Kp p H H2, ?_, ?_⟩
    · have g3 : DGet H1 p (kV (Sum.inr "digits")) (some (.int d0)) := by
        have q := DGet.k (k := (Sum.inr "digits" : Key)) hP1.1
        rw [pv3] at q
        exact q
      have g2 : DGet H1 p (kV (Sum.inr "at")) (some (.int a0)) := by
        have q := DGet.k (k := (Sum.inr "at" : Key)) hP1.1
        rw [pv2] at q
        exact q
      have g1 : DGet H1 p (kV (Sum.inr "cells")) (some (.ref l)) := by
        have q := DGet.k (k := (Sum.inr "cells" : Key)) hP1.1
        rw [pv1] at q
        exact q
      refine ⟨_, rfl, p, _, rfl, g3, rfl, _, rfl, ?_⟩
      have stay : ∃ (v2 : Option V) (a d c f : Int), start ["_law_pen_here", "_law_many", "_law_cell", "_law_digit", "_law_mixed"] [V.ref p, V.int m] = [some (.ref p), some (.int m), v2, none, none] ∧ PenAt H1 p l ns a d c f ∧ PenC a d c f (B + 1) ∧ Kp p H H1 :=
        ⟨none, a0, d0, c0 + 1, f0, rfl, hP1, ⟨hC.a0, hC.d0, by have := hC.c0; omega, by have := hC.cB; omega, hC.f0, hC.f1⟩, k1⟩
      by_cases hd : d0 = 0
      · rw [decide_eq_true (by rw [hd])]
        refine iteT ?_
        refine ⟨_, rfl, p, _, rfl, g2, _, rfl, p, _, rfl, g1, l, _, rfl, .inl (SqL.of hP1.2.1), _, _, rfl, rfl, _, rfl, ?_⟩
        rw [List.length_map]
        by_cases ha : a0 < (ns.length : Int)
        · rw [decide_eq_true ha]
          refine iteT ?_
          have han : a0.toNat < ns.length := by have := hC.a0; omega
          have hat : (ns.map V.int)[a0.toNat]? = some (V.int ns[a0.toNat]) := by
            rw [List.getElem?_map, List.getElem?_eq_getElem han]
            rfl
          generalize ns[a0.toNat] = z at hat
          refine ⟨_, rfl, p, _, rfl, g1, _, rfl, p, _, rfl, g2, l, _, a0, .int z, rfl, rfl, SqL.of hP1.2.1, at_of (j := a0.toNat) (by have := hC.a0; omega) hat, ?_⟩
          refine ⟨_, rfl, p, _, rfl, g2, _, _, rfl, rfl, _, rfl, p, _, rfl, DPut.k (k := Sum.inr "at") hP1.1 small, ?_⟩
          rw [pp2]
          have hP2 := hP1.put (a' := a0 + 1) (d' := d0) (c' := c0 + 1) (f' := f0)
          generalize hH2 : upd H1 p (.dK (penL l (a0 + 1) d0 (c0 + 1) f0)) = H2 at hP2
          have k2 : Kp p H H2 := by rw [← hH2]; exact k1.trans kp_upd
          clear hH2
          refine ⟨_, rfl, _, _, rfl, rfl, ⟨by decide, by decide, by decide⟩, _, _, rfl, rfl, _, rfl, ?_⟩
          refine ite2 (fun hz => ?_) (fun hz => ?_)
          · have hz2 : (10 : Int) ^ (18 : Int).toNat ≤ z := of_decide_eq_true hz
            refine ⟨_, rfl, _, _, rfl, rfl, ⟨by decide, by decide, by decide⟩, _, _, rfl, rfl, _, rfl, p, _, rfl, DPut.k (k := Sum.inr "digits") hP2.1 small, ?_⟩
            rw [pp3]
            exact ⟨_, a0 + 1, _, c0 + 1, f0, rfl, hP2.put, ⟨by have := hC.a0; omega, by omega, by have := hC.c0; omega, by have := hC.cB; omega, hC.f0, hC.f1⟩, k2.trans kp_upd⟩
          · refine ⟨_, rfl, p, .int f0, rfl, ?_, _, _, rfl, rfl, .inl ⟨?_, ?_⟩, _, rfl, _, _, rfl, rfl, .inl ⟨_, rfl, _, _, rfl, rfl, (by show (0 : Int) < 2147483587; decide), _, rfl, p, _, rfl, DPut.k (k := Sum.inr "fold") hP2.1 small, ?_⟩⟩
            · have q := DGet.k (k := (Sum.inr "fold" : Key)) hP2.1
              rw [pv5] at q
              exact q
            · have := hC.f0; omega
            · have := hC.f1; omega
            rw [pp5]
            exact ⟨_, a0 + 1, d0, c0 + 1, _, rfl, hP2.put, ⟨by have := hC.a0; omega, hC.d0, by have := hC.c0; omega, by have := hC.cB; omega, Int.emod_nonneg _ (by decide), Int.emod_lt_of_pos _ (by decide)⟩, k2.trans kp_upd⟩
        · rw [decide_eq_false ha]
          refine iteF ?_
          exact stay
      · rw [decide_eq_false (fun z => hd (by have z2 := V.int.inj z; exact z2))]
        refine iteF ?_
        exact stay
    · rintro σ H2 ⟨v2, a, d, c, f, rfl, hP2, hC2, k2⟩
      have g3 : DGet H2 p (kV (Sum.inr "digits")) (some (.int d)) := by
        have q := DGet.k (k := (Sum.inr "digits" : Key)) hP2.1
        rw [pv3] at q
        exact q
      refine ⟨_, rfl, p, _, rfl, g3, _, _, rfl, rfl, _, rfl, ?_⟩
      refine ite2 (fun hz => ?_) (fun hz => ?_)
      · have hz2 : 0 < d := of_decide_eq_true hz
        refine ⟨_, rfl, p, _, rfl, g3, .inl ⟨_, rfl, _, rfl, _, _, rfl, rfl, hm0, ?_⟩⟩
        refine ⟨_, rfl, p, _, rfl, g3, _, rfl, _, _, rfl, rfl, ⟨by omega, by have := (Nat.log2_lt (n := m.natAbs) (k := 400) (by omega)).mpr (Nat.lt_of_lt_of_le (show m.natAbs < 2000000000000000000000000000000000 by omega) (by decide +kernel)); omega⟩, _, rfl, p, _, rfl, DPut.k (k := Sum.inr "digits") hP2.1 small, ?_⟩
        rw [pp3]
        exact ⟨_, rfl, k _ _ (Int.emod_nonneg _ (by omega)) (Int.emod_lt_of_pos _ hm0) ⟨ns, a, _, c, f, hP2.put, hC2.a0, Int.fdiv_nonneg hC2.d0 (by omega), hC2.c0, hC2.cB, hC2.f0, hC2.f1⟩ (k2.trans kp_upd)⟩
      · refine ⟨_, rfl, p, .int f, rfl, ?_, _, rfl, p, .int c, rfl, ?_, _, _, rfl, rfl, .inl ⟨?_, ?_⟩, _, _, rfl, rfl, _, _, rfl, rfl, ?_⟩
        · have q := DGet.k (k := (Sum.inr "fold" : Key)) hP2.1
          rw [pv5] at q
          exact q
        · have q := DGet.k (k := (Sum.inr "count" : Key)) hP2.1
          rw [pv4] at q
          exact q
        · have := hC2.c0; omega
        · have := hC2.cB; omega
        have b1 := hC2.c0
        have b2 := hC2.cB
        have b3 := hC2.f0
        have b4 := hC2.f1
        refine ⟨_, rfl, _, _, rfl, rfl, ⟨by decide, by decide, ?_⟩, _, _, rfl, rfl, (by show (0 : Int) < 2305843009213693951; decide), .inl ⟨_, rfl, _, _, rfl, rfl, ⟨by decide, by decide⟩, _, rfl, _, _, rfl, rfl, hm0, ?_⟩⟩
        · show (f + c * 7907 + 43).natAbs < 2 ^ 64
          omega
        exact k _ _ (Int.emod_nonneg _ (by omega)) (Int.emod_lt_of_pos _ hm0) ⟨ns, a, d, c, f, hP2, hC2⟩ k2
theorem scPick : FnScope ["_law_pen_here", "_law_some"] ["_law_pen_here", "_law_some"] (defScope sPick) := ⟨rfl, rfl, rfl, by decide +kernel, rfl, by decide +kernel, by decide +kernel⟩
theorem ok_pick {f : Addr} {fd : FuncData} (F : Fun K "_law_pick" "_law_pick" sPick f fd) (T : Bi mg) (G : Df P w K mg base "_law_draw" 1 ["_law_pen_here", "_law_many"] spDraw) : FnOk P w K mg base CX0 2 f fd ["_law_pen_here", "_law_some"] spPick := by
  refine F.ok scPick (fun vs H Q E h => ?_) (fun cdv A outer s H vs Q E hr h => ?_)
  · obtain ⟨p, l, s, B, xs, rfl, _⟩ := h
    rfl
  · obtain ⟨p, l, s, B, xs, rfl, hP, hB, hs, hne, h0, h1, k⟩ := h
    refine ⟨_, (pss_one (ps_ret (pe_ix ix_list (pv 1) (pe_call G.ok hr rfl G.m G.kp G.b .nil pass0 (pa_cons (pv 0) (pa_cons (pe_callB call_len_seq (by rfl) T.len (by decide +kernel) (pa_cons (pv 1) pa_nil)) pa_nil))) (fun _ _ => rfl)))), ?_⟩
    refine ⟨_, rfl, _, rfl, _, rfl, s, _, rfl, .inl (SqL.of hs), p, l, B, _, rfl, hP, hB, by omega, by omega, fun z H' z0 z1 hP' kp => ?_⟩
    have hzn : z.toNat < xs.length := by omega
    exact ⟨s, xs, z, xs[z.toNat], rfl, rfl, SqL.of (kp _ _ hne hs), at_of (j := z.toNat) (by omega) (List.getElem?_eq_getElem hzn), k _ _ (List.getElem_mem hzn) hP' kp⟩
end

end Vf

set_option maxRecDepth 100000
set_option maxHeartbeats 8000000
namespace Vf
open PySem PySem.Spec PyProof.Rows L2
/-! ### the errors' own __init__ -/
def fl (names : List Str) (xs : List V) : List (Str × V) := (names.zip xs).reverse
/-- self.f = f, for each of the names -/
def spIni (C : Addr) (names : List Str) : Sp := fun vs H Q _ => ∃ (a : Addr) (xs : List V), vs = .ref a :: xs ∧ xs.length = names.length ∧ H a = some (exo a C none) ∧
  ∀ (d : Addr) (H' : Hp), H d = none → d ≠ a → H' a = some (exo a C (some d)) → H' d = some (exd d (fl names xs)) → (∀ b o, b ≠ a → H b = some o → H' b = some o) → Q .non H'
theorem keep2 {H : Hp} {a d : Addr} {o u : HO} (n : H d = none) : ∀ b z, b ≠ a → H b = some z → upd (upd H d o) a u b = some z := fun b z h e => by
  rw [upd_ne h, upd_ne (ne_of_none e n)]
  exact e
theorem keep3 {H1 H : Hp} {a d : Addr} {u : HO} (n : H d = none) (k : ∀ b z, b ≠ a → H b = some z → H1 b = some z) : ∀ b z, b ≠ a → H b = some z → upd H1 d u b = some z := fun b z h e => by
  rw [upd_ne (ne_of_none e n)]
  exact k b z h e
section
variable {P : Program} {w : World} {K : PySem.W.Frag} {mg : Str → Option Value} {base : Heap}
theorem scBadInterval : FnScope ["self", "low", "high"] ["self", "low", "high"] (defScope (inClass (topS 6) 0)) := ⟨rfl, rfl, rfl, by decide +kernel, rfl, by decide +kernel, by decide +kernel⟩
theorem iniBadInterval {f C : Addr} {fd : FuncData} (F : Fun K "__init__" "BadInterval.__init__" (inClass (topS 6) 0) f fd) (T : OexC K C) (n1 : PySem.W.findIn K (.ref C) "low" = some none) (n2 : PySem.W.findIn K (.ref C) "high" = some none) :
    FnOk P w K mg base CX0 1 f fd ["self", "low", "high"] (spIni C ["low", "high"]) := by
  refine F.ok scBadInterval (fun vs H Q E h => ?_) (fun cdv A outer s H vs Q E hr h => ?_)
  · obtain ⟨a, xs, rfl, hl, _⟩ := h
    rw [List.length_cons, hl]
    all_goals rfl
  · obtain ⟨a, xs, rfl, hl, ha, k⟩ := h
    match xs, hl with
    | [v1, v2], _ =>
    refine ⟨_, (pss_cons (ps_ost (pv 0) (pv 1)) (pss_one (ps_ost (pv 0) (pv 2)))), ?_⟩
    refine ⟨_, rfl, _, rfl, a, C, rfl, T, n1, .inl ⟨ha, fun d nd ne => ?_⟩⟩
    have e1 : (upd (upd H d (exd d [("low", v1)])) a (exo a C (some d))) a = some (exo a C (some d)) := upd_same
    have e2 : (upd (upd H d (exd d [("low", v1)])) a (exo a C (some d))) d = some (exd d [("low", v1)]) := by rw [upd_ne ne]; exact upd_same
    have e3 := keep2 (H := H) (a := a) (d := d) (o := exd d [("low", v1)]) (u := exo a C (some d)) nd
    generalize upd (upd H d (exd d [("low", v1)])) a (exo a C (some d)) = H1 at e1 e2 e3
    refine ⟨_, rfl, _, rfl, a, C, rfl, T, n2, .inr ⟨d, _, e1, e2, (by show 1 ≤ 900; decide), ?_⟩⟩
    exact k d _ nd ne (by rw [upd_ne ne.symm]; exact e1) upd_same (keep3 nd e3)
theorem scBadNumber : FnScope ["self", "what", "number"] ["self", "what", "number"] (defScope (inClass (topS 4) 0)) := ⟨rfl, rfl, rfl, by decide +kernel, rfl, by decide +kernel, by decide +kernel⟩
theorem iniBadNumber {f C : Addr} {fd : FuncData} (F : Fun K "__init__" "BadNumber.__init__" (inClass (topS 4) 0) f fd) (T : OexC K C) (n1 : PySem.W.findIn K (.ref C) "what" = some none) (n2 : PySem.W.findIn K (.ref C) "number" = some none) :
    FnOk P w K mg base CX0 1 f fd ["self", "what", "number"] (spIni C ["what", "number"]) := by
  refine F.ok scBadNumber (fun vs H Q E h => ?_) (fun cdv A outer s H vs Q E hr h => ?_)
  · obtain ⟨a, xs, rfl, hl, _⟩ := h
    rw [List.length_cons, hl]
    all_goals rfl
  · obtain ⟨a, xs, rfl, hl, ha, k⟩ := h
    match xs, hl with
    | [v1, v2], _ =>
    refine ⟨_, (pss_cons (ps_ost (pv 0) (pv 1)) (pss_one (ps_ost (pv 0) (pv 2)))), ?_⟩
    refine ⟨_, rfl, _, rfl, a, C, rfl, T, n1, .inl ⟨ha, fun d nd ne => ?_⟩⟩
    have e1 : (upd (upd H d (exd d [("what", v1)])) a (exo a C (some d))) a = some (exo a C (some d)) := upd_same
    have e2 : (upd (upd H d (exd d [("what", v1)])) a (exo a C (some d))) d = some (exd d [("what", v1)]) := by rw [upd_ne ne]; exact upd_same
    have e3 := keep2 (H := H) (a := a) (d := d) (o := exd d [("what", v1)]) (u := exo a C (some d)) nd
    generalize upd (upd H d (exd d [("what", v1)])) a (exo a C (some d)) = H1 at e1 e2 e3
    refine ⟨_, rfl, _, rfl, a, C, rfl, T, n2, .inr ⟨d, _, e1, e2, (by show 1 ≤ 900; decide), ?_⟩⟩
    exact k d _ nd ne (by rw [upd_ne ne.symm]; exact e1) upd_same (keep3 nd e3)
theorem scBadRow : FnScope ["self", "row"] ["self", "row"] (defScope (inClass (topS 5) 0)) := ⟨rfl, rfl, rfl, by decide +kernel, rfl, by decide +kernel, by decide +kernel⟩
theorem iniBadRow {f C : Addr} {fd : FuncData} (F : Fun K "__init__" "BadRow.__init__" (inClass (topS 5) 0) f fd) (T : OexC K C) (n1 : PySem.W.findIn K (.ref C) "row" = some none) :
    FnOk P w K mg base CX0 1 f fd ["self", "row"] (spIni C ["row"]) := by
  refine F.ok scBadRow (fun vs H Q E h => ?_) (fun cdv A outer s H vs Q E hr h => ?_)
  · obtain ⟨a, xs, rfl, hl, _⟩ := h
    rw [List.length_cons, hl]
    all_goals rfl
  · obtain ⟨a, xs, rfl, hl, ha, k⟩ := h
    match xs, hl with
    | [v1], _ =>
    refine ⟨_, (pss_one (ps_ost (pv 0) (pv 1))), ?_⟩
    refine ⟨_, rfl, _, rfl, a, C, rfl, T, n1, .inl ⟨ha, fun d nd ne => ?_⟩⟩
    exact k d _ nd ne upd_same (by rw [upd_ne ne]; exact upd_same) (keep2 nd)
end
/-! ### ratios: the program's own defs -/
def tyD : PyData → String
  | .none => "NoneType"
  | .bool _ => "bool"
  | .int _ => "int"
  | .str _ => "str"
  | .list _ => "list"
  | .tuple _ => "tuple"
  | .dict _ => "dict"
theorem Dt.ty {K : PySem.W.Frag} {H : Hp} {v : V} {d : PyData} (h : Dt K H v d) : TyX K H v (.type (tyD d)) := by
  cases h with
  | non => exact .base .non
  | bl b => exact .base (.bl b)
  | int i => exact .base (.int i)
  | str x => exact .base (.str x)
  | lst h1 _ =>
    rcases h1 with (h1 | ⟨o, h1⟩) | ⟨o, _, _, h1, h2, _⟩
    · exact .base (.lst h1)
    · exact .base (.frz h1)
    · exact .kList h1 h2
  | tup h1 _ =>
    rcases h1 with (h1 | ⟨o, h1⟩) | ⟨o, _, _, h1, h2, _⟩
    · exact .base (.tup h1)
    · exact .fTuple h1
    · exact .kTuple h1 h2
  | dct h1 _ => exact .base (.dK h1)
def intD : PyData → Bool
  | .int _ => true
  | .bool _ => true
  | _ => false
def boolD : PyData → Bool
  | .bool _ => true
  | _ => false
def wholeD : PyData → Bool
  | .int _ => true
  | _ => false
theorem kit_int {K : PySem.W.Frag} (d : PyData) : PySem.W.kitOne K (.type (tyD d)) (.type "int") = some (intD d) := by
  cases d with
  | none => exact kit_ty (show kitB "NoneType" "int" = some false by decide +kernel)
  | bool _ => exact kit_ty (show kitB "bool" "int" = some true by decide +kernel)
  | int _ => exact kit_ty (show kitB "int" "int" = some true by decide +kernel)
  | str _ => exact kit_ty (show kitB "str" "int" = some false by decide +kernel)
  | list _ => exact kit_ty (show kitB "list" "int" = some false by decide +kernel)
  | tuple _ => exact kit_ty (show kitB "tuple" "int" = some false by decide +kernel)
  | dict _ => exact kit_ty (show kitB "dict" "int" = some false by decide +kernel)
theorem kit_bool {K : PySem.W.Frag} (d : PyData) : PySem.W.kitOne K (.type (tyD d)) (.type "bool") = some (boolD d) := by
  cases d with
  | none => exact kit_ty (show kitB "NoneType" "bool" = some false by decide +kernel)
  | bool _ => exact kit_ty (show kitB "bool" "bool" = some true by decide +kernel)
  | int _ => exact kit_ty (show kitB "int" "bool" = some false by decide +kernel)
  | str _ => exact kit_ty (show kitB "str" "bool" = some false by decide +kernel)
  | list _ => exact kit_ty (show kitB "list" "bool" = some false by decide +kernel)
  | tuple _ => exact kit_ty (show kitB "tuple" "bool" = some false by decide +kernel)
  | dict _ => exact kit_ty (show kitB "dict" "bool" = some false by decide +kernel)
/-- a ratio's top and bottom, as it is passed -/
def pair? : List PyData → Option (Int × Int)
  | [.int a, .int b] => if 0 < b then some (a, b) else none
  | _ => none
def partsD : PyData → Option (Int × Int)
  | .int i => some (i, 1)
  | .list ds => pair? ds
  | .tuple ds => pair? ds
  | _ => none
def seqD : PyData → Option (List PyData)
  | .list ds => some ds
  | .tuple ds => some ds
  | _ => none
theorem kit_seq {K : PySem.W.Frag} (d : PyData) : PySem.W.kitAny K (.type (tyD d)) [.type "tuple", .type "list"] = some (seqD d).isSome := by
  have two : ∀ {a b : Bool} {t : String}, kitB t "tuple" = some a → kitB t "list" = some b → PySem.W.kitAny K (.type t) [.type "tuple", .type "list"] = some (a || b) := fun {a b t} h1 h2 =>
    kitAny_cons (kit_ty h1) (fun e => by rw [e, Bool.false_or]; exact kitAny_cons (kit_ty h2) (fun e2 => by rw [e2]; exact kitAny_nil) (fun e2 => e2)) (fun e => by rw [e, Bool.true_or])
  cases d with
  | none => exact two (a := false) (b := false) (show kitB "NoneType" "tuple" = some false by decide +kernel) (show kitB "NoneType" "list" = some false by decide +kernel)
  | bool _ => exact two (a := false) (b := false) (show kitB "bool" "tuple" = some false by decide +kernel) (show kitB "bool" "list" = some false by decide +kernel)
  | int _ => exact two (a := false) (b := false) (show kitB "int" "tuple" = some false by decide +kernel) (show kitB "int" "list" = some false by decide +kernel)
  | str _ => exact two (a := false) (b := false) (show kitB "str" "tuple" = some false by decide +kernel) (show kitB "str" "list" = some false by decide +kernel)
  | list _ => exact two (a := false) (b := true) (show kitB "list" "tuple" = some false by decide +kernel) (show kitB "list" "list" = some true by decide +kernel)
  | tuple _ => exact two (a := true) (b := false) (show kitB "tuple" "tuple" = some true by decide +kernel) (show kitB "tuple" "list" = some false by decide +kernel)
  | dict _ => exact two (a := false) (b := false) (show kitB "dict" "tuple" = some false by decide +kernel) (show kitB "dict" "list" = some false by decide +kernel)
/-- built-in names that the text leaves alone, and gcd -/
structure Bk (mg : Str → Option Value) : Prop extends Bi mg where
  isinstance : mg "isinstance" = none
  bool : mg "bool" = none
  tuple : mg "tuple" = none
  abs : mg "abs" = none
  str : mg "str" = none
  gcd : mg "gcd" = some (.builtin "math.gcd")
/-- an error class with one __init__ of its own, as it is raised -/
structure Ex (P : Program) (w : World) (K : PySem.W.Frag) (mg : Str → Option Value) (base : Heap) (x : Str) (C : Addr) (names : List Str) where
  ox : OexC K C
  f : Addr
  fd : FuncData
  m : mg x = some (.ref C)
  iC : PySem.W.findIn K (.ref C) "__init__" = some (some (.ref f))
  tI : PySem.W.typeIn K (.ref f) = some (.type "function")
  b : Binds K fd ("self" :: names) []
  ok : FnOk P w K mg base CX0 1 f fd ("self" :: names) (spIni C names)
/-- a def of the text that may raise -/
structure Dx (P : Program) (w : World) (K : PySem.W.Frag) (mg : Str → Option Value) (base : Heap) (x : Str) (k : Nat) (ps : List Str) (sp : Sp) where
  f : Addr
  fd : FuncData
  m : mg x = some (.ref f)
  kp : PySem.W.keepIn K (.ref f) = true
  b : Binds K fd ps []
  ok : FnOk P w K mg base (L2.CX P w) k f fd ps sp
/-- what raise X(e, ..) leaves -/
theorem raise_end {C : Addr} {names : List Str} {H1 : Hp} {vs : List V} {W : XK} (hl : vs.length = names.length) (h : ∀ d H', Same H1 H' → H1 d = none → H' d = some (.xd (fl names vs)) → W (.ref C) (some d) H') :
    ∀ a, H1 a = none → spIni C names (.ref a :: (vs ++ [])) (upd H1 a (exo a C none)) (fun v H2 => v = .non ∧ ∃ (d : Addr) (fs : List (Str × V)), H2 a = some (exo a C (some d)) ∧ H2 d = some (exd d fs) ∧ H1 d = none ∧ W (.ref C) (some d) (upd (del H2 a) d (.xd fs))) (fun _ _ _ => False) := fun a na => by
  refine ⟨a, vs, by rw [List.append_nil], hl, upd_same, fun d H' nd ne ea ed k => ⟨rfl, d, fl names vs, ea, ed, ?_, ?_⟩⟩
  · rw [upd_ne ne] at nd
    exact nd
  · rw [upd_ne ne] at nd
    refine h d _ (fun b o e => ?_) nd upd_same
    have n1 := ne_of_none e na
    rw [upd_ne (ne_of_none e nd), del_ne n1]
    exact k b o n1 (by rw [upd_ne n1]; exact e)

def spWhole (K : PySem.W.Frag) : Sp := fun vs H Q _ => ∃ (v : V) (d : PyData), vs = [v] ∧ Dt K H v d ∧ Q (.bl (wholeD d)) H
def spIsRatio (K : PySem.W.Frag) : Sp := fun vs H Q _ => ∃ (v : V) (d : PyData), vs = [v] ∧ Dt K H v d ∧ ∀ H', Same H H' → Q (.bl (partsD d).isSome) H'
def big : Nat := 8800
def spLow : Sp := fun vs H Q _ => ∃ t b : Int, vs = [.int t, .int b] ∧ b ≠ 0 ∧ b.natAbs < 2 ^ big ∧ ∀ (p : Addr) (H' : Hp), Same H H' → H p = none → H' p = some (.tup [.int (low t b).1, .int (low t b).2]) → Q (.ref p) H'
/-- an error of BadNumber -/
def RaisesN (CN : Addr) (H : Hp) (wv v : V) (E : XK) : Prop := ∀ (d : Addr) (H' : Hp), Same H H' → H d = none → H' d = some (.xd (fl ["what", "number"] [wv, v])) → E (.ref CN) (some d) H'
theorem RaisesN.same {CN : Addr} {H H1 : Hp} {wv v : V} {E : XK} (s : Same H H1) (h : RaisesN CN H wv v E) : RaisesN CN H1 wv v E := fun d H' s' n e => h d H' (s.trans s') (s.free n) e
def spParts (K : PySem.W.Frag) (CN : Addr) : Sp := fun vs H Q E => ∃ (v wv : V) (d : PyData), vs = [v, wv] ∧ Dt K H v d ∧
  (∀ t b, partsD d = some (t, b) → ∀ (p : Addr) (H' : Hp), Same H H' → H' p = some (.tup [.int t, .int b]) → Q (.ref p) H') ∧ (partsD d = none → RaisesN CN H wv v E)
def spTold (K : PySem.W.Frag) (CN : Addr) : Sp := fun vs H Q E => ∃ (v wv : V) (d : PyData), vs = [v, wv] ∧ Dt K H v d ∧
  (∀ t b, partsD d = some (t, b) → b.natAbs < 2 ^ big ∧ ∀ (p : Addr) (H' : Hp), Same H H' → H' p = some (.tup [.int (low t b).1, .int (low t b).2]) → Q (.ref p) H') ∧ (partsD d = none → RaisesN CN H wv v E)
theorem pair_pos {ds : List PyData} {t b : Int} (h : pair? ds = some (t, b)) : ds = [.int t, .int b] ∧ 0 < b := by
  unfold pair? at h
  split at h
  · split at h
    · rename_i hb
      cases h
      exact ⟨rfl, hb⟩
    · cases h
  · cases h
theorem parts_pos {d : PyData} {t b : Int} (h : partsD d = some (t, b)) : 0 < b := by
  unfold partsD at h
  split at h
  · cases h
    decide
  · exact (pair_pos h).2
  · exact (pair_pos h).2
  · cases h
section
variable {P : Program} {w : World} {K : PySem.W.Frag} {mg : Str → Option Value} {base : Heap} {CN : Addr}
abbrev sIsWhole : Stmt := topS 10
abbrev sIsRatio : Stmt := topS 11
abbrev sLowest : Stmt := topS 13
abbrev sParts : Stmt := topS 14
abbrev sTold : Stmt := topS 15
theorem scIsWhole : FnScope ["value"] ["value"] (defScope sIsWhole) := ⟨rfl, rfl, rfl, by decide +kernel, rfl, by decide +kernel, by decide +kernel⟩
theorem ok_is_whole {f : Addr} {fd : FuncData} (F : Fun K "is_whole" "is_whole" sIsWhole f fd) (T : Bk mg) : FnOk P w K mg base CX0 1 f fd ["value"] (spWhole K) := by
  refine F.ok scIsWhole (fun vs H Q E h => ?_) (fun cdv A outer s H vs Q E hr h => ?_)
  · obtain ⟨v, d, rfl, _⟩ := h
    rfl
  · obtain ⟨v, d, rfl, hd, q⟩ := h
    refine ⟨_, (pss_one (ps_ret (pe_and (pe_callB call_isi (by rfl) T.isinstance (by decide +kernel) (pa_cons (pv 0) (pa_cons (pe_bltn (v := V.ty "int") (by rfl) T.int (by decide +kernel) rfl) pa_nil)))
      (pe_one (pe_not (pe_callB call_isi (by rfl) T.isinstance (by decide +kernel) (pa_cons (pv 0) (pa_cons (pe_bltn (v := V.ty "bool") (by rfl) T.bool (by decide +kernel) rfl) pa_nil)))))))), ?_⟩
    refine ⟨_, rfl, v, .ty "int", _, .type "int", _, rfl, .ty _, hd.ty, kit_int d, _, rfl, ?_⟩
    cases hi : intD d with
    | false =>
      refine iteF ?_
      have e : wholeD d = false := by cases d <;> first | rfl | (exact absurd hi (fun z => by cases z))
      rw [e] at q
      exact q
    | true =>
      refine iteT ?_
      refine ⟨_, rfl, v, .ty "bool", _, .type "bool", _, rfl, .ty _, hd.ty, kit_bool d, _, rfl, ?_⟩
      have e : wholeD d = !boolD d := by cases d <;> first | rfl | (exact absurd hi (fun z => by cases z))
      rw [e] at q
      exact q
theorem dts2 {H : Hp} {vs : List V} {a b : PyData} (h : Dts K H vs [a, b]) : ∃ x y, vs = [x, y] ∧ Dt K H x a ∧ Dt K H y b := by
  cases h with
  | cons h1 h2 =>
    cases h2 with
    | cons h3 h4 =>
      cases h4
      exact ⟨_, _, rfl, h1, h3⟩
/-- an item of a list or tuple -/
theorem seq_at {H : Hp} {a : Addr} {xs : List V} {Q : V → Hp → Prop} {z : Int} {x : V} (h : SqL K H a xs ∨ SqT K H a xs) (e : atI xs z = some x) (q : Q x H) : rIx K (.ref a) (.int z) H Q := by
  rcases h with h | h
  · exact .inl ⟨a, xs, z, x, rfl, rfl, h, e, q⟩
  · exact .inr (.inl ⟨a, xs, z, x, rfl, rfl, h, e, q⟩)
theorem Dt.seq {H : Hp} {v : V} {d : PyData} {ds : List PyData} (h : Dt K H v d) (e : seqD d = some ds) : ∃ a vs, v = .ref a ∧ (SqL K H a vs ∨ SqT K H a vs) ∧ Dts K H vs ds := by
  cases h with
  | lst h1 h2 =>
    cases e
    exact ⟨_, _, rfl, .inl h1, h2⟩
  | tup h1 h2 =>
    cases e
    exact ⟨_, _, rfl, .inr h1, h2⟩
  | _ => cases e
theorem seq_same {H H' : Hp} {a : Addr} {vs : List V} (s : Same H H') (h : SqL K H a vs ∨ SqT K H a vs) : SqL K H' a vs ∨ SqT K H' a vs := h.imp (same_sqL s) (same_sqT s)
theorem scIsRatio : FnScope ["value"] ["value"] (defScope sIsRatio) := ⟨rfl, rfl, rfl, by decide +kernel, rfl, by decide +kernel, by decide +kernel⟩
theorem ok_is_ratio {f : Addr} {fd : FuncData} (F : Fun K "is_ratio" "is_ratio" sIsRatio f fd) (T : Bk mg) (Gw : Df P w K mg base "is_whole" 1 ["value"] (spWhole K)) : FnOk P w K mg base CX0 2 f fd ["value"] (spIsRatio K) := by
  refine F.ok scIsRatio (fun vs H Q E h => ?_) (fun cdv A outer s H vs Q E hr h => ?_)
  · obtain ⟨v, d, rfl, _⟩ := h
    rfl
  · obtain ⟨v, d, rfl, hd, q⟩ := h
    refine ⟨_, (pss_cons (ps_if (pt_val (pe_callB call_isiT (by rfl) T.isinstance (by decide +kernel) (pa_cons (pv 0) (pa_cons (pe_tup (pa_cons (pe_bltn (v := V.ty "tuple") (by rfl) T.tuple (by decide +kernel) rfl) (pa_cons (pe_bltn (v := V.ty "list") (by rfl) T.list (by decide +kernel) rfl) pa_nil))) pa_nil))))
      (pss_one (ps_ret (pe_and (pe_cmpR op_eq (pe_callB call_len_seq (by rfl) T.len (by decide +kernel) (pa_cons (pv 0) pa_nil)) pe_int (nomark _)) (pe_and (pe_call Gw.ok hr rfl Gw.m Gw.kp Gw.b .nil pass0 (pa_cons (pe_ix ix_seq (pv 0) pe_int (fun _ _ => rfl)) pa_nil)) (pe_and (pe_call Gw.ok hr rfl Gw.m Gw.kp Gw.b .nil pass0 (pa_cons (pe_ix ix_seq (pv 0) pe_int (fun _ _ => rfl)) pa_nil)) (pe_one (pe_cmpR op_gt (pe_ix ix_seq (pv 0) pe_int (fun _ _ => rfl)) pe_int (nomark _))))))))
      pss_nil)
      (pss_one (ps_ret (pe_call Gw.ok hr rfl Gw.m Gw.kp Gw.b .nil pass0 (pa_cons (pv 0) pa_nil))))), ?_⟩
    refine ⟨_, rfl, (by show 2 ≤ sizeLine; decide), fun tp ntp => ?_⟩
    have s1 : Same H (upd H tp (HO.tup [V.ty "tuple", V.ty "list"])) := same_upd ntp
    have e1 : upd H tp (HO.tup [V.ty "tuple", V.ty "list"]) tp = some (HO.tup [V.ty "tuple", V.ty "list"]) := upd_same
    generalize upd H tp (HO.tup [V.ty "tuple", V.ty "list"]) = H1 at s1 e1 ⊢
    have hd1 := hd.mono s1
    have q1 := q H1 s1
    refine ⟨v, tp, _, _, [.type "tuple", .type "list"], _, rfl, e1, .cons (.ty _) (.cons (.ty _) .nil), hd1.ty, kit_seq d, _, rfl, ?_⟩
    cases hs : seqD d with
    | none =>
      refine iteF ?_
      refine ⟨_, rfl, v, d, rfl, hd1, ?_⟩
      have e : (partsD d).isSome = wholeD d := by cases d <;> first | rfl | cases hs
      rw [e] at q1
      exact q1
    | some ds =>
      refine iteT ?_
      have ep : partsD d = pair? ds := by cases d <;> first | (cases hs; rfl) | cases hs
      rw [ep] at q1
      obtain ⟨a, vs, rfl, hsq, hds⟩ := hd1.seq hs
      refine ⟨_, rfl, a, vs, rfl, hsq, rfl, _, rfl, ?_⟩
      by_cases hl : vs.length = 2
      · rw [decide_eq_true (by rw [hl]; rfl)]
        refine iteT ?_
        have hl2 : ds.length = 2 := by rw [← hds.len]; exact hl
        match ds, hl2 with
        | [d0, d1], _ =>
        obtain ⟨x, y, rfl, hx, hy⟩ := dts2 hds
        refine ⟨_, rfl, seq_at hsq (at_of (j := 0) rfl rfl) ?_⟩
        refine ⟨x, d0, rfl, hx, _, rfl, ?_⟩
        cases h0 : wholeD d0 with
        | false =>
          refine iteF ?_
          have e : pair? [d0, d1] = none := by cases d0 <;> first | rfl | (cases h0)
          rw [e] at q1
          exact q1
        | true =>
          refine iteT ?_
          refine ⟨_, rfl, seq_at hsq (at_of (j := 1) rfl rfl) ?_⟩
          refine ⟨y, d1, rfl, hy, _, rfl, ?_⟩
          cases h1 : wholeD d1 with
          | false =>
            refine iteF ?_
            have e : pair? [d0, d1] = none := by cases d0 <;> cases d1 <;> first | rfl | (cases h1) | (cases h0)
            rw [e] at q1
            exact q1
          | true =>
            refine iteT ?_
            obtain ⟨i, rfl⟩ : ∃ i, d0 = .int i := by cases d0 <;> first | exact ⟨_, rfl⟩ | cases h0
            obtain ⟨j, rfl⟩ : ∃ j, d1 = .int j := by cases d1 <;> first | exact ⟨_, rfl⟩ | cases h1
            cases hy
            refine ⟨_, rfl, seq_at hsq (at_of (j := 1) rfl rfl) ?_⟩
            refine ⟨_, _, rfl, rfl, ?_⟩
            have e : (pair? [PyData.int i, PyData.int j]).isSome = decide (0 < j) := by
              show (if 0 < j then some (i, j) else none).isSome = decide (0 < j)
              by_cases hj : 0 < j
              · rw [if_pos hj, decide_eq_true hj]; rfl
              · rw [if_neg hj, decide_eq_false hj]; rfl
            rw [e] at q1
            exact q1
      · rw [decide_eq_false (fun z => hl (by have z2 := V.int.inj z; omega))]
        refine iteF ?_
        have e : pair? ds = none := by
          cases hp : pair? ds with
          | none => rfl
          | some tb =>
            obtain ⟨t, b⟩ := tb
            have z := (pair_pos hp).1
            rw [hds.len, z] at hl
            exact absurd rfl hl
        rw [e] at q1
        exact q1
theorem scLowest : FnScope ["top", "bottom", "shared"] ["top", "bottom"] (defScope sLowest) := ⟨rfl, rfl, rfl, by decide +kernel, rfl, by decide +kernel, by decide +kernel⟩
theorem log_of {z : Int} {k : Nat} (hk : 0 < k) (h : z.natAbs < 2 ^ k) : z.natAbs.log2 < k := PySem.Flt.log2_lt_of hk h
theorem sg_cdiv {t b x : Int} (h : b ≠ 0) (hb : b.natAbs < 2 ^ big) : CDivZ x (sg t b) :=
  ⟨sg_ne h, Nat.lt_trans (log_of (k := big) (by decide) (Nat.lt_of_le_of_lt (sg_size h) hb)) (by decide)⟩
theorem ok_lowest {f : Addr} {fd : FuncData} (F : Fun K "lowest" "lowest" sLowest f fd) (T : Bk mg) : FnOk P w K mg base CX0 1 f fd ["top", "bottom"] spLow := by
  refine F.ok scLowest (fun vs H Q E h => ?_) (fun cdv A outer s H vs Q E hr h => ?_)
  · obtain ⟨t, b, rfl, _⟩ := h
    rfl
  · obtain ⟨t, b, rfl, hb, hz, q⟩ := h
    refine ⟨_, (pss_cons (ps_set (i := 2) scLowest.nd rfl (Or.inl rfl) (pe_callBfun cr_gcd (by rfl) T.gcd (pa_cons (pv 0) (pa_cons (pv 1) pa_nil))))
      (C8.pss_cut (ps_if (pt_cmpR op_lt (pv 1) pe_int (nomark _)) (pss_one (ps_set (i := 2) scLowest.nd rfl (Or.inl rfl) (pe_un un_neg (pv 2)))) pss_nil)
      (pss_one (ps_ret (pe_tup (pa_cons (pe_op op_fdivZ (pv 0) (pv 2)) (pa_cons (pe_op op_fdivZ (pv 1) (pv 2)) pa_nil))))))), ?_⟩
    refine ⟨_, rfl, _, rfl, t, b, rfl, fun σ H2 => H2 = H ∧ σ = [some (.int t), some (.int b), some (.int (sg t b))], ?_, ?_⟩
    · refine ⟨_, rfl, _, _, rfl, rfl, _, rfl, ?_⟩
      refine ite2 (fun hlt => ?_) (fun hlt => ?_)
      · have h2 : b < 0 := of_decide_eq_true hlt
        refine ⟨_, rfl, _, rfl, rfl, ?_⟩
        unfold sg
        rw [if_pos h2]
        rfl
      · have h2 : ¬ b < 0 := fun z => hlt (decide_eq_true z)
        refine ⟨rfl, ?_⟩
        unfold sg
        rw [if_neg h2]
        rfl
    · rintro σ H2 ⟨rfl, rfl⟩
      refine ⟨_, rfl, _, rfl, _, _, rfl, rfl, sg_cdiv hb hz, _, rfl, _, rfl, _, _, rfl, rfl, sg_cdiv hb hz, (by show 2 ≤ sizeLine; decide), fun p np => ?_⟩
      exact q p _ (same_upd np) np upd_same
theorem scParts : FnScope ["value", "what"] ["value", "what"] (defScope sParts) := ⟨rfl, rfl, rfl, by decide +kernel, rfl, by decide +kernel, by decide +kernel⟩
theorem ok_parts {f : Addr} {fd : FuncData} (F : Fun K "parts_of" "parts_of" sParts f fd) (T : Bk mg) (Gr : Df P w K mg base "is_ratio" 2 ["value"] (spIsRatio K)) (N : Ex P w K mg base "BadNumber" CN ["what", "number"]) :
    FnOk P w K mg base (L2.CX P w) 3 f fd ["value", "what"] (spParts K CN) := by
  refine F.okX scParts (fun vs H Q E h => ?_) (fun cdv A outer s H vs Q E hr h => ?_)
  · obtain ⟨v, wv, d, rfl, _⟩ := h
    rfl
  · obtain ⟨v, wv, d, rfl, hd, q, e⟩ := h
    refine ⟨_, (pss_cons (ps_if (pt_not (pt_val (pe_call Gr.ok hr rfl Gr.m Gr.kp Gr.b .nil pass0 (pa_cons (pv 0) pa_nil))))
        (pss_one (ps_raise rfl (takes_of rfl rfl rfl rfl) (pmk_oex N.ox N.iC N.tI N.ok hr N.b .nil pass0 (by rfl) N.m (pa_cons (pv 1) (pa_cons (pv 0) pa_nil)))))
        pss_nil)
      (pss_cons (ps_if (pt_val (pe_callB call_isi (by rfl) T.isinstance (by decide +kernel) (pa_cons (pv 0) (pa_cons (pe_bltn (v := V.ty "int") (by rfl) T.int (by decide +kernel) rfl) pa_nil))))
        (pss_one (ps_ret (pe_tup (pa_cons (pv 0) (pa_cons pe_int pa_nil)))))
        pss_nil)
      (pss_one (ps_ret (pe_tup (pa_cons (pe_ix ix_seq (pv 0) pe_int (fun _ _ => rfl)) (pa_cons (pe_ix ix_seq (pv 0) pe_int (fun _ _ => rfl)) pa_nil))))))), ?_⟩
    refine ⟨_, rfl, v, d, rfl, hd, fun H1 s1 => ⟨_, rfl, ?_⟩⟩
    have hd1 := hd.mono s1
    cases hp : partsD d with
    | none =>
      refine iteT ?_
      refine ⟨_, rfl, _, rfl, (by show 2 ≤ 1000; decide), ?_⟩
      exact raise_end rfl fun dd H' s2 n e2 => (e hp).same s1 dd H' s2 n e2
    | some tb =>
      obtain ⟨t, b⟩ := tb
      refine iteF ?_
      refine ⟨_, rfl, v, .ty "int", _, .type "int", _, rfl, .ty _, hd1.ty, kit_int d, _, rfl, ?_⟩
      cases hs : seqD d with
      | none =>
        obtain ⟨i, rfl⟩ : ∃ i, d = .int i := by cases d <;> first | exact ⟨_, rfl⟩ | cases hp | cases hs
        cases hp
        cases hd1
        refine iteT ?_
        refine ⟨_, rfl, (by show 2 ≤ sizeLine; decide), fun p np => ?_⟩
        exact q _ _ rfl p _ (s1.trans (same_upd np)) upd_same
      | some ds =>
        have hi : intD d = false := by cases d <;> first | rfl | cases hs
        rw [hi]
        refine iteF ?_
        have ep : partsD d = pair? ds := by cases d <;> first | (cases hs; rfl) | cases hs
        have hp2 := hp
        rw [ep] at hp2
        obtain ⟨rfl, hb⟩ := pair_pos hp2
        obtain ⟨a, vs, rfl, hsq, hds⟩ := hd1.seq hs
        obtain ⟨x, y, rfl, hx, hy⟩ := dts2 hds
        cases hx
        cases hy
        refine ⟨_, rfl, seq_at hsq (at_of (j := 0) rfl rfl) ?_⟩
        refine ⟨_, rfl, seq_at hsq (at_of (j := 1) rfl rfl) ?_⟩
        refine ⟨(by show 2 ≤ sizeLine; decide), fun p np => ?_⟩
        exact q _ _ hp p _ (s1.trans (same_upd np)) upd_same
theorem scTold : FnScope ["value", "what", "top", "bottom"] ["value", "what"] (defScope sTold) := ⟨rfl, rfl, rfl, by decide +kernel, rfl, by decide +kernel, by decide +kernel⟩
theorem ok_told {f : Addr} {fd : FuncData} (F : Fun K "told" "told" sTold f fd) (Gp : Dx P w K mg base "parts_of" 3 ["value", "what"] (spParts K CN)) (Gl : Df P w K mg base "lowest" 1 ["top", "bottom"] spLow) :
    FnOk P w K mg base (L2.CX P w) 4 f fd ["value", "what"] (spTold K CN) := by
  refine F.okX scTold (fun vs H Q E h => ?_) (fun cdv A outer s H vs Q E hr h => ?_)
  · obtain ⟨v, wv, d, rfl, _⟩ := h
    rfl
  · obtain ⟨v, wv, d, rfl, hd, q, e⟩ := h
    refine ⟨_, (pss_cons (ps_asg (pe_call Gp.ok hr rfl Gp.m Gp.kp Gp.b .nil (E := E) (passes_call (takes_of rfl rfl rfl rfl) (fun _ _ _ _ h => h)) (pa_cons (pv 0) (pa_cons (pv 1) pa_nil))) (pg_tup (by rfl) (pgs_cons (pg_name (i := 2) scTold.nd rfl (Or.inl rfl)) (pgs_cons (pg_name (i := 3) scTold.nd rfl (Or.inl rfl)) pgs_nil))))
      (pss_one (ps_ret (pe_call Gl.ok (hr.mono (by decide)) rfl Gl.m Gl.kp Gl.b .nil pass0 (pa_cons (pv 2) (pa_cons (pv 3) pa_nil)))))), ?_⟩
    refine ⟨_, rfl, _, rfl, v, wv, d, rfl, hd, fun t b hp p H1 s1 e1 => ?_, e⟩
    obtain ⟨hz, q⟩ := q t b hp
    have hb := parts_pos hp
    refine ⟨p, _, rfl, SqT.of e1, rfl, _, _, rfl, _, _, rfl, rfl, ?_⟩
    refine ⟨_, rfl, _, rfl, t, b, rfl, by omega, hz, fun p2 H2 s2 n2 e2 => ?_⟩
    exact q p2 H2 (s1.trans s2) e2
end

end Vf

set_option maxRecDepth 100000
set_option maxHeartbeats 8000000
namespace Vf
open PySem PySem.Spec PyProof.Rows L2
/-! ### two ratios -/
/-- below 2 ^ 4300 in size -/
def Sz (z : Int) : Prop := z.natAbs < 2 ^ 4300
theorem sz_mulW {x y : Int} (h1 : Sz x) (h2 : Sz y) : CMulW x y := wide_mul h1 h2 (by decide) (by decide) (by decide)
theorem sz_mul {x y : Int} (h1 : Sz x) (h2 : Sz y) : (x * y).natAbs < 2 ^ 8600 := wide_lt h1 h2
/-- what a def of two ratios promises: of the right ones ok, of the first wrong one the error -/
def spTwo (K : PySem.W.Frag) (CN : Addr) (ok : V → Int → Int → Int → Int → Hp → VK → XK → Prop) : Sp := fun vs H Q E => ∃ (v u : V) (d e : PyData), vs = [v, u] ∧ Dt K H v d ∧ Dt K H u e ∧
  (∀ t b x c, partsD d = some (t, b) → partsD e = some (x, c) → Sz t ∧ Sz b ∧ Sz x ∧ Sz c ∧ ok u t b x c H Q E) ∧
  (partsD d = none → RaisesN CN H (.str "ratio") v E) ∧ ((partsD d).isSome = true → partsD e = none → RaisesN CN H (.str "ratio") u E)
def okLow (g : Int → Int → Int → Int → Int × Int) : V → Int → Int → Int → Int → Hp → VK → XK → Prop := fun _ t b x c H Q _ =>
  ∀ (p : Addr) (H' : Hp), Same H H' → H' p = some (.tup [.int (low (g t b x c).1 (g t b x c).2).1, .int (low (g t b x c).1 (g t b x c).2).2]) → Q (.ref p) H'
def gPlus (t b x c : Int) : Int × Int := (t * c + x * b, b * c)
def gMinus (t b x c : Int) : Int × Int := (t * c - x * b, b * c)
def gTimes (t b x c : Int) : Int × Int := (t * x, b * c)
def gShare (t b x c : Int) : Int × Int := (t * c, b * x)
def okShare (CN : Addr) : V → Int → Int → Int → Int → Hp → VK → XK → Prop := fun u t b x c H Q E => (x = 0 → RaisesN CN H (.str "divisor") u E) ∧ (x ≠ 0 → okLow gShare u t b x c H Q E)
def okLower : V → Int → Int → Int → Int → Hp → VK → XK → Prop := fun _ t b x c H Q _ => ∀ H', Same H H' → Q (.bl (decide (t * c < x * b))) H'
section
variable {P : Program} {w : World} {K : PySem.W.Frag} {mg : Str → Option Value} {base : Heap} {CN : Addr}
abbrev sPlus : Stmt := topS 16
theorem scPlus : FnScope ["one", "other", "top", "bottom", "other_top", "other_bottom"] ["one", "other"] (defScope sPlus) := ⟨rfl, rfl, rfl, by decide +kernel, rfl, by decide +kernel, by decide +kernel⟩
theorem ok_plus {f : Addr} {fd : FuncData} (F : Fun K "plus" "plus" sPlus f fd) (Gp : Dx P w K mg base "parts_of" 3 ["value", "what"] (spParts K CN)) (Gl : Df P w K mg base "lowest" 1 ["top", "bottom"] spLow) (N : Ex P w K mg base "BadNumber" CN ["what", "number"]) :
    FnOk P w K mg base (L2.CX P w) 4 f fd ["one", "other"] (spTwo K CN (okLow gPlus)) := by
  refine F.okX scPlus (fun vs H Q E h => ?_) (fun cdv A outer s H vs Q E hr h => ?_)
  · obtain ⟨v, u, d, e, rfl, _⟩ := h
    rfl
  · obtain ⟨v, u, d, e, rfl, hd, he', q, r1, r2⟩ := h
    refine ⟨_, (pss_cons (ps_asg (pe_call Gp.ok hr rfl Gp.m Gp.kp Gp.b .nil (E := E) (passes_call (takes_of rfl rfl rfl rfl) (fun _ _ _ _ h => h)) (pa_cons (pv 0) (pa_cons pe_str pa_nil))) (pg_tup (by rfl) (pgs_cons (pg_name (i := 2) scPlus.nd rfl (Or.inl rfl)) (pgs_cons (pg_name (i := 3) scPlus.nd rfl (Or.inl rfl)) pgs_nil))))
      (pss_cons (ps_asg (pe_call Gp.ok hr rfl Gp.m Gp.kp Gp.b .nil (E := E) (passes_call (takes_of rfl rfl rfl rfl) (fun _ _ _ _ h => h)) (pa_cons (pv 1) (pa_cons pe_str pa_nil))) (pg_tup (by rfl) (pgs_cons (pg_name (i := 4) scPlus.nd rfl (Or.inl rfl)) (pgs_cons (pg_name (i := 5) scPlus.nd rfl (Or.inl rfl)) pgs_nil))))
      (pss_one (ps_ret (pe_call Gl.ok (hr.mono (by decide)) rfl Gl.m Gl.kp Gl.b .nil pass0 (pa_cons (pe_op op_add (pe_op op_mulW (pv 2) (pv 5)) (pe_op op_mulW (pv 4) (pv 3))) (pa_cons (pe_op op_mulW (pv 3) (pv 5)) pa_nil))))))), ?_⟩
    refine ⟨_, rfl, v, .str "ratio", d, rfl, hd, fun t b hp p H1 s1 e1 => ?_, r1⟩
    have r2 := r2 (by rw [hp]; rfl)
    have q := fun x c he => q t b x c hp he
    refine ⟨p, _, rfl, SqT.of e1, rfl, _, _, rfl, _, _, rfl, rfl, ?_⟩
    refine ⟨_, rfl, u, .str "ratio", e, rfl, he'.mono s1, fun x c he p2 H2 s2 e2 => ?_, fun z => (r2 z).same s1⟩
    refine ⟨p2, _, rfl, SqT.of e2, rfl, _, _, rfl, _, _, rfl, rfl, ?_⟩
    obtain ⟨ht, hb, hx, hc, q⟩ := q x c he
    have s12 := s1.trans s2
    refine ⟨_, rfl, _, rfl, _, _, rfl, rfl, sz_mulW ht hc, _, rfl, _, rfl, _, _, rfl, rfl, sz_mulW hx hb, _, _, rfl, rfl, _, rfl, _, rfl, _, _, rfl, rfl, sz_mulW hb hc, _, _, rfl, by have := parts_pos hp; have := parts_pos he; exact Int.ne_of_gt (Int.mul_pos ‹_› ‹_›), Nat.lt_trans (sz_mul hb hc) (by decide +kernel), fun p H4 s4 n4 e4 => ?_⟩
    exact q p H4 (s12.trans s4) e4
abbrev sLower : Stmt := topS 17
theorem scLower : FnScope ["one", "other", "top", "bottom", "other_top", "other_bottom"] ["one", "other"] (defScope sLower) := ⟨rfl, rfl, rfl, by decide +kernel, rfl, by decide +kernel, by decide +kernel⟩
theorem ok_lower {f : Addr} {fd : FuncData} (F : Fun K "lower" "lower" sLower f fd) (Gp : Dx P w K mg base "parts_of" 3 ["value", "what"] (spParts K CN)) (Gl : Df P w K mg base "lowest" 1 ["top", "bottom"] spLow) (N : Ex P w K mg base "BadNumber" CN ["what", "number"]) :
    FnOk P w K mg base (L2.CX P w) 4 f fd ["one", "other"] (spTwo K CN okLower) := by
  refine F.okX scLower (fun vs H Q E h => ?_) (fun cdv A outer s H vs Q E hr h => ?_)
  · obtain ⟨v, u, d, e, rfl, _⟩ := h
    rfl
  · obtain ⟨v, u, d, e, rfl, hd, he', q, r1, r2⟩ := h
    refine ⟨_, (pss_cons (ps_asg (pe_call Gp.ok hr rfl Gp.m Gp.kp Gp.b .nil (E := E) (passes_call (takes_of rfl rfl rfl rfl) (fun _ _ _ _ h => h)) (pa_cons (pv 0) (pa_cons pe_str pa_nil))) (pg_tup (by rfl) (pgs_cons (pg_name (i := 2) scLower.nd rfl (Or.inl rfl)) (pgs_cons (pg_name (i := 3) scLower.nd rfl (Or.inl rfl)) pgs_nil))))
      (pss_cons (ps_asg (pe_call Gp.ok hr rfl Gp.m Gp.kp Gp.b .nil (E := E) (passes_call (takes_of rfl rfl rfl rfl) (fun _ _ _ _ h => h)) (pa_cons (pv 1) (pa_cons pe_str pa_nil))) (pg_tup (by rfl) (pgs_cons (pg_name (i := 4) scLower.nd rfl (Or.inl rfl)) (pgs_cons (pg_name (i := 5) scLower.nd rfl (Or.inl rfl)) pgs_nil))))
      (pss_one (ps_ret (pe_cmpR op_lt (pe_op op_mulW (pv 2) (pv 5)) (pe_op op_mulW (pv 4) (pv 3)) (nomark _)))))), ?_⟩
    refine ⟨_, rfl, v, .str "ratio", d, rfl, hd, fun t b hp p H1 s1 e1 => ?_, r1⟩
    have r2 := r2 (by rw [hp]; rfl)
    have q := fun x c he => q t b x c hp he
    refine ⟨p, _, rfl, SqT.of e1, rfl, _, _, rfl, _, _, rfl, rfl, ?_⟩
    refine ⟨_, rfl, u, .str "ratio", e, rfl, he'.mono s1, fun x c he p2 H2 s2 e2 => ?_, fun z => (r2 z).same s1⟩
    refine ⟨p2, _, rfl, SqT.of e2, rfl, _, _, rfl, _, _, rfl, rfl, ?_⟩
    obtain ⟨ht, hb, hx, hc, q⟩ := q x c he
    have s12 := s1.trans s2
    refine ⟨_, rfl, _, rfl, _, _, rfl, rfl, sz_mulW ht hc, _, rfl, _, rfl, _, _, rfl, rfl, sz_mulW hx hb, _, _, rfl, rfl, ?_⟩
    exact q _ s12
end
/-! ### the law's own ratios -/
def spGcd : Sp := fun vs H Q _ => ∃ a b : Int, vs = [.int a, .int b] ∧ a.natAbs < 2 ^ big ∧ b.natAbs < 2 ^ big ∧ Q (.int ((Nat.gcd a.natAbs b.natAbs : Nat) : Int)) H
def spQ : Sp := fun vs H Q _ => ∃ t b : Int, vs = [.int t, .int b] ∧ b ≠ 0 ∧ t.natAbs < 2 ^ big ∧ b.natAbs < 2 ^ big ∧ ∀ (p : Addr) (H' : Hp), Same H H' → H p = none → H' p = some (.tup [.int (low t b).1, .int (low t b).2]) → Q (.ref p) H'
section
variable {P : Program} {w : World} {K : PySem.W.Frag} {mg : Str → Option Value} {base : Heap} {CN : Addr}
abbrev sLGcd : Stmt := topS 47
abbrev sLQ : Stmt := topS 48
theorem scLGcd : FnScope ["_law_one", "_law_two", "_law_lap"] ["_law_one", "_law_two"] (defScope sLGcd) := ⟨rfl, rfl, rfl, by decide +kernel, rfl, by decide +kernel, by decide +kernel⟩
theorem ok_lgcd {f : Addr} {fd : FuncData} (F : Fun K "_law_gcd" "_law_gcd" sLGcd f fd) (T : Bk mg) : FnOk P w K mg base CX0 1 f fd ["_law_one", "_law_two"] spGcd := by
  refine F.ok scLGcd (fun vs H Q E h => ?_) (fun cdv A outer s H vs Q E hr h => ?_)
  · obtain ⟨a, b, rfl, _⟩ := h
    rfl
  · obtain ⟨a, b, rfl, ha, hb, q⟩ := h
    refine ⟨_, (pss_cons (ps_par (i := 0) (j := 1) (by rfl) scLGcd.nd rfl rfl (by decide) rfl rfl (pa_cons (pe_callB call_abs (by rfl) T.abs (by decide +kernel) (pa_cons (pv 0) pa_nil)) (pa_cons (pe_callB call_abs (by rfl) T.abs (by decide +kernel) (pa_cons (pv 1) pa_nil)) pa_nil)) (by rfl))
      (pss_cons (ps_for PassesOwn.never rfl (pi_range1 (by rfl) T.range (pa_cons pe_int pa_nil)) (pg_name (i := 2) scLGcd.nd rfl (Or.inl rfl))
        (pss_cons (ps_if (pt_cmpR op_eq (pv 1) pe_int (nomark _)) (pss_one ps_break) pss_nil)
        (pss_one (ps_par (i := 0) (j := 1) (by rfl) scLGcd.nd rfl rfl (by decide) rfl rfl (pa_cons (pv 1) (pa_cons (pe_op op_mod (pe_callTy call_int1 (by rfl) T.int (by decide +kernel) (pa_cons (pv 0) pa_nil)) (pv 1)) pa_nil)) (by rfl)))))
      (pss_one (ps_ret (pv 0))))), ?_⟩
    refine ⟨_, rfl, _, rfl, _, rfl, _, rfl, _, _, rfl, ?_⟩
    refine ⟨50000, rfl, by decide, by decide, for_range (lo := 0) (n := 50000) (fun i σ H2 => H2 = H ∧ ∃ (x y : Int) (v : Option V), σ = [some (.int x), some (.int y), v] ∧ Lap (Nat.gcd a.natAbs b.natAbs) (a.natAbs * b.natAbs) i x y) ⟨rfl, _, _, none, rfl, lap0 a b⟩ ?_ ?_⟩
    · rintro i σ H2 hi ⟨rfl, x, y, v, rfl, h⟩
      refine ⟨_, rfl, rfl, _, rfl, ?_⟩
      by_cases hy : y = 0
      · rw [decide_eq_true (by rw [hy])]
        refine iteT ?_
        refine ⟨_, rfl, ?_⟩
        have e := lap_end h hy
        rw [e]
        exact q
      · rw [decide_eq_false (fun z => hy (by have z2 := V.int.inj z; exact z2))]
        refine iteF ?_
        have y0 := h.b0
        refine ⟨_, rfl, _, rfl, .inl ⟨_, rfl, _, rfl, _, _, rfl, rfl, (by show 0 < y; omega), _, _, rfl, ?_⟩⟩
        exact ⟨rfl, _, _, _, rfl, lap_next h hy⟩
    · rintro σ H2 ⟨rfl, x, y, v, rfl, h⟩
      have hP : a.natAbs * b.natAbs < 2 ^ (50000 - 1) := by
        have z : a.natAbs * b.natAbs < 2 ^ (big + big) := by
          rw [Nat.pow_add]
          exact Nat.mul_lt_mul'' ha hb
        exact Nat.lt_trans z (Nat.pow_lt_pow_right (by decide) (by decide))
      have e := lap_end h (lap_over h (by decide) hP)
      refine ⟨_, rfl, ?_⟩
      rw [e]
      exact q
theorem scLQ : FnScope ["_law_top", "_law_bottom", "_law_by"] ["_law_top", "_law_bottom"] (defScope sLQ) := ⟨rfl, rfl, rfl, by decide +kernel, rfl, by decide +kernel, by decide +kernel⟩
theorem ok_lq {f : Addr} {fd : FuncData} (F : Fun K "_law_q" "_law_q" sLQ f fd) (G : Df P w K mg base "_law_gcd" 1 ["_law_one", "_law_two"] spGcd) : FnOk P w K mg base CX0 2 f fd ["_law_top", "_law_bottom"] spQ := by
  refine F.ok scLQ (fun vs H Q E h => ?_) (fun cdv A outer s H vs Q E hr h => ?_)
  · obtain ⟨t, b, rfl, _⟩ := h
    rfl
  · obtain ⟨t, b, rfl, hb, ht, hz, q⟩ := h
    refine ⟨_, (pss_cons (ps_set (i := 2) scLQ.nd rfl (Or.inl rfl) (pe_call G.ok hr rfl G.m G.kp G.b .nil pass0 (pa_cons (pv 0) (pa_cons (pv 1) pa_nil))))
      (pss_cons (ps_set (i := 2) scLQ.nd rfl (Or.inl rfl) (pe_ifExp (pt_cmpR op_lt (pv 1) pe_int (nomark _)) (pe_un un_neg (pv 2)) (pv 2)))
      (pss_one (ps_ret (pe_tup (pa_cons (pe_op op_fdivZ (pv 0) (pv 2)) (pa_cons (pe_op op_fdivZ (pv 1) (pv 2)) pa_nil))))))), ?_⟩
    have tail : ∀ s : Int, s = sg t b → (∀ p, H p = none → Q (.ref p) (upd H p (.tup [.int (t.fdiv s), .int (b.fdiv s)]))) := fun s e p np => by
      rw [e]
      exact q p _ (same_upd np) np upd_same
    refine ⟨_, rfl, _, rfl, t, b, rfl, ht, hz, _, rfl, _, _, rfl, rfl, _, rfl, ?_⟩
    refine ite2 (fun hlt => ?_) (fun hlt => ?_)
    · have h2 : b < 0 := of_decide_eq_true hlt
      have e : -((Nat.gcd t.natAbs b.natAbs : Nat) : Int) = sg t b := by unfold sg; rw [if_pos h2]
      have c : ∀ x : Int, CDivZ x (-((Nat.gcd t.natAbs b.natAbs : Nat) : Int)) := fun x => by rw [e]; exact sg_cdiv hb hz
      exact ⟨_, rfl, _, rfl, _, rfl, _, rfl, _, _, rfl, rfl, c _, _, rfl, _, rfl, _, _, rfl, rfl, c _, (by show 2 ≤ sizeLine; decide), tail _ e⟩
    · have h2 : ¬ b < 0 := fun z => hlt (decide_eq_true z)
      have e : ((Nat.gcd t.natAbs b.natAbs : Nat) : Int) = sg t b := by unfold sg; rw [if_neg h2]
      have c : ∀ x : Int, CDivZ x ((Nat.gcd t.natAbs b.natAbs : Nat) : Int) := fun x => by rw [e]; exact sg_cdiv hb hz
      exact ⟨_, rfl, _, rfl, _, rfl, _, _, rfl, rfl, c _, _, rfl, _, rfl, _, _, rfl, rfl, c _, (by show 2 ≤ sizeLine; decide), tail _ e⟩
end

end Vf

set_option maxRecDepth 100000
set_option maxHeartbeats 4000000
/-! rules: a list or tuple walked; == of data; == by a class's own def; rows of ratios -/
namespace Vf
open PySem PySem.Spec PyProof.Rows L2
section
variable {X : Cx} {tg : Expr}
/-- a walk over a list or a tuple -/
def iSeq (K : PySem.W.Frag) (tl : TE) : TI := fun σ H R => tl σ H fun x H1 => ∃ a, x = .ref a ∧ ((∃ xs, SqL K H1 a xs ∧ R (Itl K a) H1) ∨ (∃ xs, SqT K H1 a xs ∧ R (Itt K a) H1))
theorem pi_seq {l : Expr} {tl : TE} (hl : PE X l tl) : PI X tg l (iSeq X.K tl) := by
  refine ⟨fun pins s σ H R I h => ?_⟩
  refine thn (hl.run pins s σ H _ I h) fun v s1 ⟨x, H1, I1, r1, q1⟩ => ?_
  obtain ⟨a, e, q1⟩ := q1
  subst e
  rcases q1 with ⟨xs, hq, q⟩ | ⟨xs, hq, q⟩
  · cases r1
    obtain ⟨its, rv, p, hz⟩ := I1.list hq
    refine wpAny_pyIter_list p.isList ?_
    refine ⟨s1.heap.objs.size, [s1.heap.objs.size], _, _, H1, rfl, I1.kept (t' := s1.toks) fun b o e => Heap.get?_push_of_some _ e, turn_list a _, ⟨_, Heap.get?_push_size _ rfl, rfl, rfl⟩, fun b hb => ?_, q⟩
    have e : b = s1.heap.objs.size := by simpa using hb
    subst e
    exact I1.fpOk (Nat.le_refl _) (I1.hok.fresh (Nat.le_refl _))
  · cases r1
    obtain ⟨its, rv, p, hz⟩ := I1.tuple hq
    refine wpAny_pyIter_tuple (show s1.heap.IsTuple a its.toArray from p) ?_
    refine ⟨s1.heap.objs.size, [s1.heap.objs.size], _, _, H1, rfl, I1.kept (t' := s1.toks) fun b o e => Heap.get?_push_of_some _ e, turn_tuple a _, ⟨_, Heap.get?_push_size _ rfl, rfl, rfl⟩, fun b hb => ?_, q⟩
    have e : b = s1.heap.objs.size := by simpa using hb
    subst e
    exact I1.fpOk (Nat.le_refl _) (I1.hok.fresh (Nat.le_refl _))
/-- list(x), told by its constants alone -/
def rListOf (K : PySem.W.Frag) : List V → Hp → VK → Prop := fun xs H Q => ∃ p ys, xs = [.ref p] ∧ (SqL K H p ys ∨ SqT K H p ys) ∧ ∀ l, H l = none → Q (.ref l) (upd H l (.lst ys))
theorem call_listK : CallR X (.type "list") (rListOf X.K) := call_list_of
/-- == and != of data without dicts -/
def rEqT (K : PySem.W.Frag) : R2 := fun x y H Q => ∃ d e, Dt K H x d ∧ Dt K H y e ∧ d.plain = true ∧ e.plain = true ∧ d.depth ≤ 60 ∧ Q (.bl (PyData.eqv d e)) H
def rNeT (K : PySem.W.Frag) : R2 := fun x y H Q => ∃ d e, Dt K H x d ∧ Dt K H y e ∧ d.plain = true ∧ e.plain = true ∧ d.depth ≤ 60 ∧ Q (.bl (!PyData.eqv d e)) H
theorem op_eqT (hu : X.A.units + 64 < cLine) (m : M1 X.base) : OpR X (compareOp .Eq) (rEqT X.K) := by
  intro pins s σ H x y v u Q I rx ry h
  obtain ⟨d, e, hd, he, pd, pe, hz, q⟩ := h
  obtain ⟨as, r1, _⟩ := Dt.reads I m hd rx
  obtain ⟨bs, r2, _⟩ := Dt.reads I m he ry
  exact SeqAt.eq_plain r1 r2 pd pe (by have := Nat.min_le_left d.depth e.depth; omega) ⟨.bl _, H, I, rfl, q⟩
theorem op_neT (hu : X.A.units + 64 < cLine) (m : M1 X.base) : OpR X (compareOp .NotEq) (rNeT X.K) := by
  intro pins s σ H x y v u Q I rx ry h
  obtain ⟨d, e, hd, he, pd, pe, hz, q⟩ := h
  obtain ⟨as, r1, _⟩ := Dt.reads I m hd rx
  obtain ⟨bs, r2, _⟩ := Dt.reads I m he ry
  exact SeqAt.ne_plain r1 r2 pd pe (by have := Nat.min_le_left d.depth e.depth; omega) ⟨.bl _, H, I, rfl, q⟩
/-- x == y, x of the class at C whose own == is at g -/
def rEqO (K : PySem.W.Frag) (C : Addr) (sp : Sp) (E : XK) : R2 := fun x y H Q => ∃ a dx fs t, x = .ref a ∧ H a = some (.ins C dx fs) ∧ TyX K H y t ∧ PySem.W.notFirst K C t = true ∧ sp [x, y] H Q E
theorem op_eqO {CX : CXT} {C g : Addr} {k : Nat} {fd : FuncData} {ps : List Str} {sp : Sp} {E : XK} (hs : PySem.W.findIn X.K (.ref C) "__eq__" = some (some (.ref g))) (hf : PySem.W.isFn X.K (.ref g) = true)
    (F : FnOk X.prog X.w X.K X.mg X.base CX k g fd ps sp) (hb : Binds X.K fd ps []) (hr : Room k X.A) (hx : Passes CX X E) : OpR X (compareOp .Eq) (rEqO X.K C sp E) := by
  intro pins s σ H x y v u Q I rx ry h
  obtain ⟨a, dx, fs, t, rfl, ha, ty, hn, q⟩ := h
  cases (show v = Value.ref a from rx)
  obtain ⟨mA, O, _⟩ := ins_get I.hok ha
  obtain ⟨od, J, _⟩ := O.look
  obtain ⟨P, Z, p, _⟩ := kit_of I ry ty
  obtain ⟨m, hF⟩ := I.fr
  refine PySem.W.cmp_K (op := .Eq) (tb := t) hr.units0 hF I.ok.mod.kin J (Z.ty _ _ I.kIn p) hn hs hf ?_
  have hsp : sp ([V.ref a, y] ++ []) H Q E := q
  refine wpAny_mono (run_fn (us := [.ref a, u]) (vs := [.ref a, y]) F hr hb .nil hx I (.cons rfl (.cons ry .nil)) hsp) (fun w s' z => ?_) fun _ _ x => x
  obtain ⟨z', H', I', rz, qz⟩ := z
  exact SlX.cmpback rz ⟨z', H', I', rz, qz⟩
end
/-- what is new in the second heap -/
def nw (H H' : Hp) : Hp := fun b => match H b with
  | some _ => none
  | none => H' b
theorem nw_at {H H' : Hp} {b : Addr} {o : HO} (h : H b = none) (e : H' b = some o) : nw H H' b = some o := by
  unfold nw
  rw [h]
  exact e
theorem nw_get {H H' : Hp} {b : Addr} {o : HO} (e : nw H H' b = some o) : H b = none ∧ H' b = some o := by
  unfold nw at e
  split at e
  · cases e
  · exact ⟨by assumption, e⟩
theorem nw_sub {H H' : Hp} : Same (nw H H') H' := fun b o e => (nw_get e).2
/-- the heap without l and p -/
def fz (l p : Addr) (H : Hp) : Hp := fun b => if b = l ∨ b = p then none else H b
theorem fz_at {l p b : Addr} {H : Hp} {o : HO} (h1 : b ≠ l) (h2 : b ≠ p) (e : H b = some o) : fz l p H b = some o := by
  unfold fz
  rw [if_neg (fun z => z.elim h1 h2)]
  exact e
theorem fz_get {l p b : Addr} {H : Hp} {o : HO} (e : fz l p H b = some o) : b ≠ l ∧ b ≠ p ∧ H b = some o := by
  unfold fz at e
  by_cases h : b = l ∨ b = p
  · rw [if_pos h] at e
    cases e
  · rw [if_neg h] at e
    exact ⟨fun z => h (.inl z), fun z => h (.inr z), e⟩
theorem fz_sub {l p : Addr} {H : Hp} : Same (fz l p H) H := fun b o e => (fz_get e).2.2
theorem fz_mono {l p : Addr} {H H' : Hp} (k : ∀ b o, b ≠ l → b ≠ p → H b = some o → H' b = some o) : Same (fz l p H) (fz l p H') := fun b o e => by
  obtain ⟨h1, h2, h3⟩ := fz_get e
  exact fz_at h1 h2 (k b o h1 h2 h3)
theorem nw_fz {l p : Addr} {H H' : Hp} {o1 o2 : HO} (hl : H l = some o1) (hp : H p = some o2) : Same (nw H H') (fz l p H') := fun b o e => by
  obtain ⟨h1, h2⟩ := nw_get e
  exact fz_at (fun z => by rw [z, hl] at h1; cases h1) (fun z => by rw [z, hp] at h1; cases h1) h2
theorem some_free {p b : Addr} {H H' : Hp} {o : HO} (k : ∀ c u, c ≠ p → H c = some u → H' c = some u) (hp : H' p = some o) (n : H' b = none) : H b = none := by
  cases e : H b with
  | none => rfl
  | some u =>
    by_cases h : b = p
    · rw [h, hp] at n
      cases n
    · rw [k b u h e] at n
      cases n
/-! ### rows of ratios -/
def pairD (p : Int × Int) : PyData := .tuple [.int p.1, .int p.2]
/-- a row without the zeros behind -/
def strip (l : List (Int × Int)) : List (Int × Int) := (l.reverse.dropWhile fun p => p.1 == 0).reverse
theorem strip_nil : strip [] = [] := rfl
theorem strip_snoc (l : List (Int × Int)) (x : Int × Int) : strip (l ++ [x]) = if x.1 = 0 then strip l else l ++ [x] := by
  unfold strip
  rw [List.reverse_append]
  simp only [List.reverse_cons, List.reverse_nil, List.nil_append, List.singleton_append, List.dropWhile_cons, beq_iff_eq]
  split
  · rfl
  · rw [List.reverse_cons, List.reverse_reverse]
theorem snoc_ind {α : Type} {P : List α → Prop} (h0 : P []) (hs : ∀ l x, P l → P (l ++ [x])) : ∀ l, P l := fun l => by
  have h : ∀ r : List α, P r.reverse := fun r => by
    induction r with
    | nil => exact h0
    | cons x r ih => rw [List.reverse_cons]; exact hs _ _ ih
  have z := h l.reverse
  rw [List.reverse_reverse] at z
  exact z
theorem snoc_cases {α : Type} (l : List α) : l = [] ∨ ∃ r x, l = r ++ [x] := snoc_ind (P := fun l => l = [] ∨ ∃ r x, l = r ++ [x]) (.inl rfl) (fun l x _ => .inr ⟨l, x, rfl⟩) l
theorem strip_last : ∀ {l r : List (Int × Int)} {x : Int × Int}, strip l = r ++ [x] → x.1 ≠ 0 := by
  intro l
  refine snoc_ind (P := fun l => ∀ {r : List (Int × Int)} {x : Int × Int}, strip l = r ++ [x] → x.1 ≠ 0) (fun {r x} h => by simp [strip_nil] at h) (fun l y ih {r x} h => ?_) l
  rw [strip_snoc] at h
  split at h
  · exact ih h
  · have z := (List.append_inj' h rfl).2
    cases z
    assumption
theorem strip_pre (l : List (Int × Int)) : ∃ r, l = strip l ++ r ∧ ∀ x ∈ r, x.1 = 0 := by
  refine snoc_ind (P := fun l => ∃ r, l = strip l ++ r ∧ ∀ x ∈ r, x.1 = 0) ⟨[], rfl, fun x h => by cases h⟩ (fun l y ih => ?_) l
  rw [strip_snoc]
  split
  · rename_i h0
    obtain ⟨r, e, hr⟩ := ih
    refine ⟨r ++ [y], by rw [← List.append_assoc, ← e], fun x hx => ?_⟩
    rcases List.mem_append.mp hx with z | z
    · exact hr x z
    · rw [List.mem_singleton.mp z]; exact h0
  · exact ⟨[], by simp, fun x h => by cases h⟩
theorem strip_mem {l : List (Int × Int)} {x : Int × Int} (h : x ∈ strip l) : x ∈ l := by
  obtain ⟨r, e, _⟩ := strip_pre l
  rw [e]
  exact List.mem_append.mpr (.inl h)
theorem strip_len (l : List (Int × Int)) : (strip l).length ≤ l.length := by
  obtain ⟨r, e, _⟩ := strip_pre l
  have := congrArg List.length e
  rw [List.length_append] at this
  omega
theorem strip_id {l : List (Int × Int)} (h : ∀ r x, l = r ++ [x] → x.1 ≠ 0) : strip l = l := by
  rcases snoc_cases l with e | ⟨r, x, e⟩
  · rw [e]; rfl
  · have z := h r x e
    rw [e, strip_snoc, if_neg z]
/-- tuples of two whole numbers each, at their addresses -/
inductive Tups (H : Hp) : List Addr → List (Int × Int) → Prop
  | nil : Tups H [] []
  | cons {a : Addr} {as : List Addr} {p : Int × Int} {ps : List (Int × Int)} : H a = some (.tup [.int p.1, .int p.2]) → Tups H as ps → Tups H (a :: as) (p :: ps)
theorem Tups.len {H : Hp} : ∀ {as : List Addr} {ps : List (Int × Int)}, Tups H as ps → as.length = ps.length
  | _, _, .nil => rfl
  | _, _, .cons _ t => congrArg (· + 1) t.len
theorem Tups.imp {H H' : Hp} (e : ∀ (a : Addr) (p : Int × Int), H a = some (.tup [.int p.1, .int p.2]) → H' a = some (.tup [.int p.1, .int p.2])) : ∀ {as : List Addr} {ps : List (Int × Int)}, Tups H as ps → Tups H' as ps
  | _, _, .nil => .nil
  | _, _, .cons h t => .cons (e _ _ h) (t.imp e)
theorem Tups.same {H H' : Hp} (e : Same H H') {as : List Addr} {ps : List (Int × Int)} (h : Tups H as ps) : Tups H' as ps := h.imp fun a p q => e _ _ q
theorem Tups.snoc {H : Hp} : ∀ {as : List Addr} {ps : List (Int × Int)} {a : Addr} {p : Int × Int}, Tups H as ps → H a = some (.tup [.int p.1, .int p.2]) → Tups H (as ++ [a]) (ps ++ [p])
  | _, _, _, _, .nil, h => .cons h .nil
  | _, _, _, _, .cons h t, h2 => .cons h (t.snoc h2)
theorem Tups.unsnoc {H : Hp} : ∀ {as : List Addr} {ps : List (Int × Int)} {p : Int × Int}, Tups H as (ps ++ [p]) → ∃ as' a, as = as' ++ [a] ∧ Tups H as' ps ∧ H a = some (.tup [.int p.1, .int p.2])
  | _, [], _, .cons h .nil => ⟨[], _, rfl, .nil, h⟩
  | _, _ :: _, _, .cons h t => by
    obtain ⟨as', a, e, t', h'⟩ := t.unsnoc
    exact ⟨_ :: as', a, by rw [e]; rfl, .cons h t', h'⟩
theorem Tups.dts {K : PySem.W.Frag} {H : Hp} : ∀ {as : List Addr} {ps : List (Int × Int)}, Tups H as ps → Dts K H (as.map V.ref) (ps.map pairD)
  | _, _, .nil => .nil
  | _, _, .cons h t => .cons (.tup (SqT.of h) (.cons (.int _) (.cons (.int _) .nil))) t.dts
theorem Tups.app {H : Hp} : ∀ {as bs : List Addr} {ps qs : List (Int × Int)}, Tups H as ps → Tups H bs qs → Tups H (as ++ bs) (ps ++ qs)
  | _, _, _, _, .nil, h => h
  | _, _, _, _, .cons a t, h => .cons a (t.app h)
theorem Tups.take {H : Hp} : ∀ {as : List Addr} {ps : List (Int × Int)} (n : Nat), Tups H as ps → Tups H (as.take n) (ps.take n)
  | _, _, 0, _ => .nil
  | _, _, _ + 1, .nil => .nil
  | _, _, n + 1, .cons a t => .cons a (t.take n)
theorem Tups.at {H : Hp} : ∀ {as : List Addr} {ps : List (Int × Int)} {i : Nat} {a : Addr}, Tups H as ps → as[i]? = some a → ∃ p, ps[i]? = some p ∧ H a = some (.tup [.int p.1, .int p.2])
  | _, _, _, _, .nil, e => by simp at e
  | _, _, 0, _, .cons h _, e => by simp at e; subst e; exact ⟨_, rfl, h⟩
  | _, _, i + 1, a, .cons _ t, e => by
    obtain ⟨d, h1, h2⟩ := t.at (i := i) (a := a) (by simpa using e)
    exact ⟨d, by simpa using h1, h2⟩
theorem eqv_pair (p q : Int × Int) : PyData.eqv (pairD p) (pairD q) = decide (p = q) := by
  obtain ⟨a, b⟩ := p
  obtain ⟨c, d⟩ := q
  unfold pairD
  simp only [PyData.eqv, PyData.eqvAll, Bool.and_true]
  by_cases h1 : a = c <;> by_cases h2 : b = d <;> simp [h1, h2]
theorem eqvAll_pairs : ∀ l r : List (Int × Int), PyData.eqvAll (l.map pairD) (r.map pairD) = decide (l = r)
  | [], [] => by simp [PyData.eqvAll]
  | [], _ :: _ => by simp [PyData.eqvAll]
  | _ :: _, [] => by simp [PyData.eqvAll]
  | p :: l, q :: r => by
    simp only [List.map_cons, PyData.eqvAll, eqv_pair, eqvAll_pairs l r]
    by_cases h1 : p = q <;> by_cases h2 : l = r <;> simp [h1, h2]
theorem eqv_row (l r : List (Int × Int)) : PyData.eqv (.tuple (l.map pairD)) (.tuple (r.map pairD)) = decide (l = r) := by
  simp only [PyData.eqv]
  exact eqvAll_pairs l r
theorem eqv_rowL (l r : List (Int × Int)) : PyData.eqv (.list (l.map pairD)) (.list (r.map pairD)) = decide (l = r) := by
  simp only [PyData.eqv]
  exact eqvAll_pairs l r
theorem plain_pairs : ∀ l : List (Int × Int), PyData.plainAll (l.map pairD) = true
  | [] => by simp only [List.map_nil, PyData.plainAll]
  | p :: l => by
    simp only [List.map_cons, PyData.plainAll, plain_pairs l, pairD, PyData.plain, Bool.and_self]
theorem plain_row (l : List (Int × Int)) : (PyData.tuple (l.map pairD)).plain = true ∧ (PyData.list (l.map pairD)).plain = true := by
  simp only [PyData.plain]
  exact ⟨plain_pairs l, plain_pairs l⟩
theorem depth_pairs : ∀ l : List (Int × Int), PyData.depthAll (l.map pairD) ≤ 1
  | [] => by simp only [List.map_nil, PyData.depthAll]; omega
  | p :: l => by
    have h := depth_pairs l
    simp only [List.map_cons, PyData.depthAll, pairD, PyData.depth]
    exact Nat.max_le.mpr ⟨by simp, h⟩
theorem depth_row (l : List (Int × Int)) : (PyData.tuple (l.map pairD)).depth ≤ 60 ∧ (PyData.list (l.map pairD)).depth ≤ 60 := by
  have h := depth_pairs l
  simp only [PyData.depth]
  omega
/-- a comprehension over a list or a tuple -/
theorem lc_seq {K : PySem.W.Frag} {a : Addr} {xs : List V} {g : TG} {tt : TT} {te : TE} {vs : List Nat} {σ : L2.St} {H1 : Hp} {Qd : Addr → Hp → Prop} (h : SqL K H1 a xs ∨ SqT K H1 a xs) (Pv : Addr → Nat → Hp → Prop)
    (h0 : ∀ D, H1 D = none → Pv D 0 (upd H1 D (.lst []))) (hl : ∀ D i H, H1 D = none → Pv D i H → (SqL K H1 a xs → SqL K H a xs) ∧ (SqT K H1 a xs → SqT K H a xs))
    (hs : ∀ D i x H, H1 D = none → xs[i]? = some x → Pv D i H → g x (wipe σ vs) H fun σ2 H2 => wipe σ2 vs = wipe σ vs ∧ tt σ2 H2 fun b H3 =>
      if b = true then te σ2 H3 fun y H4 => ∃ acc, H4 D = some (.lst acc) ∧ acc.length < sizeLine ∧ Pv D (i + 1) (upd H4 D (.lst (acc ++ [y]))) else Pv D (i + 1) H3) (hd : ∀ D H, H1 D = none → Pv D xs.length H → Qd D H) :
    (∃ xs, SqL K H1 a xs ∧ ∀ D, H1 D = none → ∃ W : Nat → Nat → Hp → Prop, (∃ m, W 0 m (upd H1 D (.lst []))) ∧ ∀ i m H, W i m H →
      (((Itl K a).stop i H ∧ Qd D H) ∨ ((Itl K a).go i H ∧ ∃ Nx : Hp → Prop, (∀ H', Nx H' → ∃ m', m' < m ∧ W (i + 1) m' H') ∧ ∀ x H', (Itl K a).yld i H x H' → g x (wipe σ vs) H' fun σ2 H2 => wipe σ2 vs = wipe σ vs ∧ tt σ2 H2 fun b H3 =>
        if b = true then te σ2 H3 fun y H4 => ∃ acc, H4 D = some (.lst acc) ∧ acc.length < sizeLine ∧ Nx (upd H4 D (.lst (acc ++ [y]))) else Nx H3))) ∨
    (∃ xs, SqT K H1 a xs ∧ ∀ D, H1 D = none → ∃ W : Nat → Nat → Hp → Prop, (∃ m, W 0 m (upd H1 D (.lst []))) ∧ ∀ i m H, W i m H →
      (((Itt K a).stop i H ∧ Qd D H) ∨ ((Itt K a).go i H ∧ ∃ Nx : Hp → Prop, (∀ H', Nx H' → ∃ m', m' < m ∧ W (i + 1) m' H') ∧ ∀ x H', (Itt K a).yld i H x H' → g x (wipe σ vs) H' fun σ2 H2 => wipe σ2 vs = wipe σ vs ∧ tt σ2 H2 fun b H3 =>
        if b = true then te σ2 H3 fun y H4 => ∃ acc, H4 D = some (.lst acc) ∧ acc.length < sizeLine ∧ Nx (upd H4 D (.lst (acc ++ [y]))) else Nx H3))) := by
  rcases h with h | h
  · exact .inl ⟨xs, h, fun D hD => lc_list (K := K) (a := a) (xs := xs) (Pv D) (h0 D hD) (fun i H _ p => (hl D i H hD p).1 h) (fun i x H hi p => hs D i x H hD hi p) (fun H p => hd D H hD p)⟩
  · exact .inr ⟨xs, h, fun D hD => lc_tup (K := K) (a := a) (xs := xs) (Pv D) (h0 D hD) (fun i H _ p => (hl D i H hD p).2 h) (fun i x H hi p => hs D i x H hD hi p) (fun H p => hd D H hD p)⟩
theorem strip_strip (l : List (Int × Int)) : strip (strip l) = strip l := strip_id fun r x h => strip_last h
end Vf

set_option maxRecDepth 100000
set_option maxHeartbeats 8000000
namespace Vf
open PySem PySem.Spec PyProof.Rows L2
/-! ### the law's odd values -/
def spAny (K : PySem.W.Frag) : Sp := fun vs H Q _ => ∃ (p lc : Addr) (B : Int), vs = [.ref p] ∧ Pen H p lc B ∧ B ≤ 100000000 ∧
  ∀ (v : V) (d : PyData) (H' : Hp), Pen H' p lc (B + 1) → Kp p H H' → Dt K (nw H H') v d → partsD d = none → Gd d → (PyData.str d.shown).canLay0 = true → Q v H'
section
variable {P : Program} {w : World} {K : PySem.W.Frag} {mg : Str → Option Value} {base : Heap}
end

end Vf

set_option maxRecDepth 100000
set_option maxHeartbeats 8000000
namespace Vf
open PySem PySem.Spec PyProof.Rows L2
/-! ### the law's passed ratios, some ratios -/
/-- below 2 ^ 1200 in size -/
def S80 (z : Int) : Prop := z.natAbs < 2 ^ 1200
theorem s80_k {t k : Int} (h : S80 t) (h0 : 0 < k) (h3 : k ≤ 3) : (t * k).natAbs < 2 ^ 1210 := by
  unfold S80 at h
  rw [Int.natAbs_mul]
  have hk : k.natAbs ≤ 3 := by omega
  have : t.natAbs * k.natAbs ≤ t.natAbs * 3 := Nat.mul_le_mul_left _ hk
  have e : (2 : Nat) ^ 1210 = 2 ^ 1200 * 1024 := by decide +kernel
  rw [e]
  omega
theorem gd_z {z : Int} (h : z.natAbs < 2 ^ 1210) : Gd (.int z) := gd_int (Nat.lt_trans h (Nat.pow_lt_pow_right (by decide) (by decide)))
theorem gd_pair {a b : Int} (ha : a.natAbs < 2 ^ 1210) (hb : b.natAbs < 2 ^ 1210) : Gd (.list [.int a, .int b]) ∧ Gd (.tuple [.int a, .int b]) := by
  have ga := gd_z ha
  have gb := gd_z hb
  have all : ∀ d ∈ [PyData.int a, PyData.int b], d = .int a ∨ d = .int b := fun d hd => by simpa using hd
  have big : ∀ {z : Int}, z.natAbs < 2 ^ 1210 → (PyData.int z).shown.length ≤ 2000 := fun {z} h => by
    simp only [PyData.shown]
    exact Nat.le_trans (int_text_len_1921 (log_small (Nat.lt_trans h (Nat.pow_lt_pow_right (by decide) (by decide))))) (by decide)
  refine gd_seq (ds := [.int a, .int b]) (n := 2) (m := 2000) (Nat.le_refl 2) (fun d hd => ?_) (fun d hd => ?_) (fun d hd => ?_) (by decide)
  · rcases all d hd with h | h <;> rw [h]
    · exact ga.sh
    · exact gb.sh
  · rcases all d hd with h | h <;> rw [h] <;> simp [PyData.depth]
  · rcases all d hd with h | h <;> rw [h]
    · exact big ha
    · exact big hb
def spPassed (K : PySem.W.Frag) : Sp := fun vs H Q _ => ∃ (p lc r : Addr) (B t b : Int), vs = [.ref p, .ref r] ∧ Pen H p lc B ∧ B ≤ 100000000 ∧ H r = some (.tup [.int t, .int b]) ∧ 0 < b ∧ S80 t ∧ S80 b ∧
  ∀ (v : V) (d : PyData) (k : Int) (H' : Hp), Pen H' p lc (B + 3) → Kp p H H' → Dt K (nw H H') v d → partsD d = some (t * k, b * k) → 0 < k → k ≤ 3 → Gd d → Q v H'
section
variable {P : Program} {w : World} {K : PySem.W.Frag} {mg : Str → Option Value} {base : Heap}
abbrev sPassed : Stmt := topS 55
theorem scPassed : FnScope ["_law_pen_here", "_law_ratio_here", "_law_by"] ["_law_pen_here", "_law_ratio_here"] (defScope sPassed) := ⟨rfl, rfl, rfl, by decide +kernel, rfl, by decide +kernel, by decide +kernel⟩
theorem ok_passed {f : Addr} {fd : FuncData} (F : Fun K "_law_passed" "_law_passed" sPassed f fd) (Gd_ : Df P w K mg base "_law_draw" 1 ["_law_pen_here", "_law_many"] spDraw) (Gp : Df P w K mg base "_law_pick" 2 ["_law_pen_here", "_law_some"] spPick) : FnOk P w K mg base CX0 3 f fd ["_law_pen_here", "_law_ratio_here"] (spPassed K) := by
  refine F.ok scPassed (fun vs H Q E h => ?_) (fun cdv A outer s H vs Q E hr h => ?_)
  · obtain ⟨p, lc, r, B, t, b, rfl, _⟩ := h
    rfl
  · obtain ⟨p, lc, r, B, t, b, rfl, hP, hB, hr0, hb, ht, hbz, q⟩ := h
    have rp : r ≠ p := by
      obtain ⟨_, _, _, _, _, g1, _⟩ := hP
      exact ne_of hr0 g1.1 (by intro z; cases z)
    refine ⟨_, (C8.pss_cut (ps_if (PW.pt (pw_and (pt_cmpR op_eq (pe_ix ix_tup (pv 1) pe_int (fun _ _ => rfl)) pe_int (nomark _)) (pw_and1 (pt_cmpR op_eq (pe_call Gd_.ok (hr.mono (by decide)) rfl Gd_.m Gd_.kp Gd_.b .nil pass0 (pa_cons (pv 0) (pa_cons pe_int pa_nil))) pe_int (nomark _)))))
        (pss_one (ps_ret (pe_ix ix_tup (pv 1) pe_int (fun _ _ => rfl))))
        pss_nil)
      (pss_cons (ps_set (i := 2) scPassed.nd rfl (Or.inl rfl) (pe_call Gp.ok hr rfl Gp.m Gp.kp Gp.b .nil pass0 (pa_cons (pv 0) (pa_cons (pe_lst (pa_cons pe_int (pa_cons pe_int (pa_cons pe_int (pa_cons pe_int pa_nil))))) pa_nil))))
      (pss_one (ps_ret (pe_call Gp.ok hr rfl Gp.m Gp.kp Gp.b .nil pass0 (pa_cons (pv 0) (pa_cons (pe_lst (pa_cons (pe_tup (pa_cons (pe_op op_mul (pe_ix ix_tup (pv 1) pe_int (fun _ _ => rfl)) (pv 2)) (pa_cons (pe_op op_mul (pe_ix ix_tup (pv 1) pe_int (fun _ _ => rfl)) (pv 2)) pa_nil))) (pa_cons (pe_lst (pa_cons (pe_op op_mul (pe_ix ix_tup (pv 1) pe_int (fun _ _ => rfl)) (pv 2)) (pa_cons (pe_op op_mul (pe_ix ix_tup (pv 1) pe_int (fun _ _ => rfl)) (pv 2)) pa_nil))) pa_nil))) pa_nil))))))), ?_⟩
    refine ⟨fun σ H2 => ∃ B1, σ = [some (.ref p), some (.ref r), none] ∧ Pen H2 p lc B1 ∧ B1 ≤ B + 1 ∧ Kp p H H2, ?_, ?_⟩
    · refine ⟨_, rfl, r, _, _, .int b, rfl, rfl, SqT.of hr0, at_of (j := 1) rfl rfl, rfl, _, rfl, ?_⟩
      by_cases hb1 : b = 1
      · rw [decide_eq_true (by rw [hb1])]
        refine iteT ?_
        refine ⟨_, rfl, p, lc, B, _, rfl, hP, by omega, by decide, by decide, fun z H1 z0 z1 hP1 k1 => ⟨rfl, _, rfl, ?_⟩⟩
        have hr1 := k1 _ _ rp hr0
        by_cases hz : z = 0
        · rw [decide_eq_true (by rw [hz])]
          refine iteT ?_
          refine ⟨_, rfl, r, _, _, .int t, rfl, rfl, SqT.of hr1, at_of (j := 0) rfl rfl, ?_⟩
          exact q (.int t) (.int t) 1 H1 (hP1.more (by omega)) k1 (.int t) (by show some (t, 1) = some (t * 1, b * 1); rw [hb1, Int.mul_one, Int.mul_one]) (by decide) (by decide) (gd_z (Nat.lt_trans ht (by decide +kernel)))
        · rw [decide_eq_false (fun h => hz (by have h2 := V.int.inj h; exact h2))]
          refine iteF ?_
          exact ⟨B + 1, rfl, hP1, Int.le_refl _, k1⟩
      · rw [decide_eq_false (fun h => hb1 (by have h2 := V.int.inj h; exact h2))]
        refine iteF ?_
        exact ⟨B, rfl, hP, by omega, Kp.refl⟩
    · rintro σ H1 ⟨B1, rfl, hP1, hB1, k1⟩
      have hr1 := k1 _ _ rp hr0
      refine ⟨_, rfl, (by show 4 ≤ sizeLine; decide), fun l nl => ?_⟩
      have el : upd H1 l (HO.lst [V.int 1, V.int 1, V.int 2, V.int 3]) l = some (HO.lst [V.int 1, V.int 1, V.int 2, V.int 3]) := upd_same
      have s1 : Same H1 (upd H1 l (HO.lst [V.int 1, V.int 1, V.int 2, V.int 3])) := same_upd nl
      have lp : l ≠ p := by
        obtain ⟨o, e⟩ := hP1.there
        exact (ne_of_none e nl).symm
      generalize upd H1 l (HO.lst [V.int 1, V.int 1, V.int 2, V.int 3]) = H2 at el s1 ⊢
      refine ⟨p, lc, l, B1, _, rfl, hP1.same s1, by omega, el, lp, (by show 0 < 4; decide), (by show 4 < 1000000; decide), fun x H3 hx hP3 k3 => ?_⟩
      obtain ⟨k, rfl, hk0, hk3⟩ : ∃ k : Int, x = .int k ∧ 0 < k ∧ k ≤ 3 := by
        simp only [List.mem_cons, List.not_mem_nil, or_false] at hx
        rcases hx with h | h | h | h
        · exact ⟨1, h, by decide, by decide⟩
        · exact ⟨1, h, by decide, by decide⟩
        · exact ⟨2, h, by decide, by decide⟩
        · exact ⟨3, h, by decide, by decide⟩
      have k13 : Kp p H H3 := (k1.trans (Kp.of s1)).trans k3
      have hr3 := k13 _ _ rp hr0
      have mk : ∀ z : Int, CMul z k := fun z => .inr ⟨by omega, by omega⟩
      refine ⟨_, rfl, _, rfl, r, _, _, .int t, rfl, rfl, SqT.of hr3, at_of (j := 0) rfl rfl, _, rfl, _, _, rfl, rfl, mk _, _, rfl, r, _, _, .int b, rfl, rfl, SqT.of hr3, at_of (j := 1) rfl rfl, _, rfl, _, _, rfl, rfl, mk _, (by show 2 ≤ sizeLine; decide), fun t1 n1 => ?_⟩
      have e1 : upd H3 t1 (HO.tup [V.int (t * k), V.int (b * k)]) t1 = some (HO.tup [V.int (t * k), V.int (b * k)]) := upd_same
      have s4 : Same H3 (upd H3 t1 (HO.tup [V.int (t * k), V.int (b * k)])) := same_upd n1
      have tp : t1 ≠ p := by
        obtain ⟨o, e⟩ := hP3.there
        exact (ne_of_none e n1).symm
      generalize upd H3 t1 (HO.tup [V.int (t * k), V.int (b * k)]) = H4 at e1 s4 ⊢
      have hP4 := hP3.same s4
      have hr4 := s4 _ _ hr3
      refine ⟨_, rfl, r, _, _, .int t, rfl, rfl, SqT.of hr4, at_of (j := 0) rfl rfl, _, rfl, _, _, rfl, rfl, mk _, _, rfl, r, _, _, .int b, rfl, rfl, SqT.of hr4, at_of (j := 1) rfl rfl, _, rfl, _, _, rfl, rfl, mk _, (by show 2 ≤ sizeLine; decide), fun l2 n2 => ?_⟩
      have e2 : upd H4 l2 (HO.lst [V.int (t * k), V.int (b * k)]) l2 = some (HO.lst [V.int (t * k), V.int (b * k)]) := upd_same
      have s5 : Same H4 (upd H4 l2 (HO.lst [V.int (t * k), V.int (b * k)])) := same_upd n2
      have l2p : l2 ≠ p := by
        obtain ⟨o, e⟩ := hP4.there
        exact (ne_of_none e n2).symm
      generalize upd H4 l2 (HO.lst [V.int (t * k), V.int (b * k)]) = H5 at e2 s5 ⊢
      have hP5 := hP4.same s5
      refine ⟨(by show 2 ≤ sizeLine; decide), fun l3 n3 => ?_⟩
      have e3 : upd H5 l3 (HO.lst [V.ref t1, V.ref l2]) l3 = some (HO.lst [V.ref t1, V.ref l2]) := upd_same
      have s6 : Same H5 (upd H5 l3 (HO.lst [V.ref t1, V.ref l2])) := same_upd n3
      have l3p : l3 ≠ p := by
        obtain ⟨o, e⟩ := hP5.there
        exact (ne_of_none e n3).symm
      generalize upd H5 l3 (HO.lst [V.ref t1, V.ref l2]) = H6 at e3 s6 ⊢
      have hP6 := hP5.same s6
      refine ⟨p, lc, l3, _, _, rfl, hP6, by omega, e3, l3p, (by show 0 < 2; decide), (by show 2 < 1000000; decide), fun x H7 hx hP7 k7 => ?_⟩
      have k17 : Kp p H H7 := ((k13.trans (Kp.of s4)).trans (Kp.of (s5.trans s6))).trans k7
      have hbk : 0 < b * k := Int.mul_pos hb hk0
      have pr : pair? [.int (t * k), .int (b * k)] = some (t * k, b * k) := by
        show (if 0 < b * k then some (t * k, b * k) else none) = some (t * k, b * k)
        rw [if_pos hbk]
      have gp := gd_pair (s80_k ht hk0 hk3) (s80_k hbz hk0 hk3)
      simp only [List.mem_cons, List.not_mem_nil, or_false] at hx
      rcases hx with h | h
      · rw [h]
        exact q _ (.tuple [.int (t * k), .int (b * k)]) k H7 (hP7.more (by omega)) k17 (.tup (SqT.of (nw_at (some_free k13 hP3.there.choose_spec n1) (k7 _ _ tp (s6 _ _ (s5 _ _ e1))))) (.cons (.int _) (.cons (.int _) .nil))) pr hk0 hk3 gp.2
      · rw [h]
        exact q _ (.list [.int (t * k), .int (b * k)]) k H7 (hP7.more (by omega)) k17 (.lst (SqL.of (nw_at (some_free k13 hP3.there.choose_spec (s4.free n2)) (k7 _ _ l2p (s6 _ _ e2)))) (.cons (.int _) (.cons (.int _) .nil))) pr hk0 hk3 gp.1
end

end Vf

set_option maxRecDepth 100000
set_option maxHeartbeats 8000000
namespace Vf
open PySem PySem.Spec PyProof.Rows L2
/-! ### the law's why: a lambda called in a try -/
/-- the classes that it names -/
structure Wc (K : PySem.W.Frag) (mg : Str → Option Value) (C : Nat → Addr) : Prop where
  m0 : mg "BadText" = some (.ref (C 0))
  m1 : mg "BadNumber" = some (.ref (C 1))
  m2 : mg "BadRow" = some (.ref (C 2))
  m3 : mg "TooMany" = some (.ref (C 3))
  m4 : mg "Unlike" = some (.ref (C 4))
  m5 : mg "TooWide" = some (.ref (C 5))
  m6 : mg "Pole" = some (.ref (C 6))
  xf : ∀ k, k < 7 → XfC K (C k)
  ex : ∀ k j, k < 7 → j < 7 → PySem.W.exmOne K (.ref (C k)) (.ref (C j)) = some (decide (k = j))
  n0 : PySem.W.findIn K (.ref (C 0)) "column" = some none
  n1 : PySem.W.findIn K (.ref (C 1)) "what" = some none
  n1b : PySem.W.findIn K (.ref (C 1)) "number" = some none
  n2 : PySem.W.findIn K (.ref (C 2)) "row" = some none
  n3 : PySem.W.findIn K (.ref (C 3)) "what" = some none
  n3b : PySem.W.findIn K (.ref (C 3)) "limit" = some none
  n4 : PySem.W.findIn K (.ref (C 4)) "what" = some none
  repr : mg "repr" = none
/-- repr of data, by the units alone (in a suite too) -/
theorem call_reprU {X : Cx} (K : PySem.W.Frag) (hg : X.A.guards = some []) (hu : X.A.units + 150 < cLine) (m : M1 X.base) (hK : X.K = K := by rfl) :
    CallR X (.builtin "repr") (fun xs H Q => ∃ v d, xs = [v] ∧ Dt K H v d ∧ small d ∧ Q (.str d.shown) H) := by
  subst hK
  intro pins s σ H xs us Q I r h
  obtain ⟨v, d, rfl, hd, ⟨hs, hz, hl⟩, q⟩ := h
  obtain ⟨u, rfl, ru⟩ := vals1 r
  obtain ⟨as, rd, na⟩ := Dt.reads I m hd ru
  have hu2 : X.A.units + (d.depth + 1) < cLine := by omega
  cases rd with
  | none => exact PySem.P.repr_of_none ⟨.str _, H, I.tok _, ⟨_, rfl⟩, by simpa only [PyData.shown] using q⟩
  | bool b => exact PySem.P.repr_of_bool ⟨.str _, H, I.tok _, ⟨_, rfl⟩, by simpa only [PyData.shown] using q⟩
  | int i t => exact PySem.P.repr_of_int (by simpa [PyData.showable] using hs) ⟨.str _, H, I.tok _, ⟨_, rfl⟩, by simpa only [PyData.shown] using q⟩
  | str x t => exact PySem.P.repr_of_str ⟨.str _, H, I.tok _, ⟨_, rfl⟩, by simpa only [PyData.shown] using q⟩ (by simpa only [PyData.shown] using hl)
  | list a1 a2 a3 a4 => exact repr_of_reads' (.list a1 a2 a3 a4) hs (fun _ => na) hg hu2 (fun _ _ e => e) (fun h' u tk hk => ⟨.str _, H, I.kept hk, ⟨_, rfl⟩, q⟩) hl
  | tuple a1 a2 a3 a4 => exact repr_of_reads' (.tuple a1 a2 a3 a4) hs (fun _ => na) hg hu2 (fun _ _ e => e) (fun h' u tk hk => ⟨.str _, H, I.kept hk, ⟨_, rfl⟩, q⟩) hl
  | dict a1 a2 a3 a4 a5 => exact repr_of_reads' (.dict a1 a2 a3 a4 a5) hs (fun _ => na) hg hu2 (fun _ _ e => e) (fun h' u tk hk => ⟨.str _, H, I.kept hk, ⟨_, rfl⟩, q⟩) hl
/-- what is taken, where the slots are as many as the names -/
theorem takes_len {X : Cx} {W : WX} (tk : Takes X W) : Takes X (fun cls d σ H => σ.length = X.N.length → W cls d σ H) := fun u s' z => by
  obtain ⟨a, B, sI, pins, σ, H, cls, d, e, J, nb, up, sky, na, os, ag, w⟩ := z
  exact tk u s' ⟨a, B, sI, pins, σ, H, cls, d, e, J, nb, up, sky, na, os, ag, w J.len⟩
/-! ### what stands while lambdas are made -/
open LamX (ExtN Tabs TabS)
theorem sqL_n {K : PySem.W.Frag} {H H' : Hp} {a : Addr} {xs : List V} (e : ExtN H H') (h : SqL K H a xs) : SqL K H' a xs := by
  rcases h with (h | ⟨o, h⟩) | h
  · exact Or.inl (Or.inl (e a _ h (fun ps z => by cases z)))
  · exact Or.inl (Or.inr ⟨o, e a _ h (fun ps z => by cases z)⟩)
  · exact Or.inr h
theorem sqT_n {K : PySem.W.Frag} {H H' : Hp} {a : Addr} {xs : List V} (e : ExtN H H') (h : SqT K H a xs) : SqT K H' a xs := by
  rcases h with (h | ⟨o, h⟩) | h
  · exact Or.inl (Or.inl (e a _ h (fun ps z => by cases z)))
  · exact Or.inl (Or.inr ⟨o, e a _ h (fun ps z => by cases z)⟩)
  · exact Or.inr h
mutual
theorem Dt.n {K : PySem.W.Frag} {H H' : Hp} (e : ExtN H H') : ∀ {v : V} {d : PyData}, Dt K H v d → Dt K H' v d
  | _, _, .non => .non
  | _, _, .bl b => .bl b
  | _, _, .int i => .int i
  | _, _, .str x => .str x
  | _, _, .lst h1 h2 => .lst (sqL_n e h1) (Dts.n e h2)
  | _, _, .tup h1 h2 => .tup (sqT_n e h1) (Dts.n e h2)
  | _, _, .dct h1 h2 => .dct (e _ _ h1 (fun ps z => by cases z)) (Dts.n e h2)
theorem Dts.n {K : PySem.W.Frag} {H H' : Hp} (e : ExtN H H') : ∀ {vs : List V} {ds : List PyData}, Dts K H vs ds → Dts K H' vs ds
  | _, _, .nil => .nil
  | _, _, .cons h1 h2 => .cons (Dt.n e h1) (Dts.n e h2)
end
/-- all but p and the tables stands as it stood -/
def Kn (p : Addr) (H H' : Hp) : Prop := ∀ b o, b ≠ p → H b = some o → (∀ ps, o ≠ .tbl ps) → H' b = some o
theorem Kn.of {p : Addr} {H H' : Hp} (k : Kp p H H') : Kn p H H' := fun b o n e _ => k b o n e
theorem Kn.ext {p : Addr} {H H' : Hp} (k : ExtN H H') : Kn p H H' := fun b o _ e t => k b o e t
theorem Kn.same {p : Addr} {H H' : Hp} (k : Same H H') : Kn p H H' := fun b o _ e _ => k b o e
theorem Kn.trans {p : Addr} {H H1 H2 : Hp} (a : Kn p H H1) (b : Kn p H1 H2) : Kn p H H2 := fun c o n e t => b c o n (a c o n e t) t
theorem Kn.refl {p : Addr} {H : Hp} : Kn p H H := fun _ _ _ e _ => e
theorem Kn.wo {p : Addr} {H H' : Hp} (k : Kn p H H') : ExtN (wo p H) (wo p H') := fun b o e t => by
  unfold Vf.wo at e ⊢
  by_cases h : b = p
  · rw [if_pos h] at e
    cases e
  · rw [if_neg h] at e ⊢
    exact k b o h e t
theorem Pen.n {H H' : Hp} {p l : Addr} {B : Int} (h : Pen H p l B) (e : ExtN H H') : Pen H' p l B := by
  obtain ⟨ns, a, d, c, f, ⟨g1, g2, g3⟩, h2⟩ := h
  exact ⟨ns, a, d, c, f, ⟨e _ _ g1 (fun ps z => by cases z), e _ _ g2 (fun ps z => by cases z), g3⟩, h2⟩
/-- the pen's turns leave the tables -/
theorem tabs_kp {T : List (Addr × Str)} {H H' : Hp} {p l : Addr} {B : Int} (hP : Pen H p l B) (k : Kp p H H') (t : Tabs T H) : Tabs T H' := fun y hy => by
  obtain ⟨ns, a, d, c, f, g1, _⟩ := hP
  obtain ⟨ps, h1, h2, h3⟩ := t y hy
  refine ⟨ps, k _ _ (ne_of h1 g1.1 (by intro z; cases z)) h1, h2, fun pos cv hc => ?_⟩
  obtain ⟨c', e1, e2⟩ := h3 pos cv hc
  exact ⟨c', e1, k _ _ (ne_of e2 g1.1 (by intro z; unfold LamX.CodeO at z; cases z)) e2⟩
/-- a def of several that a slot may hold, called there; it may raise -/
structure HeldX (P : Program) (w : World) (K : PySem.W.Frag) (mg : Str → Option Value) (base : Heap) (k : Nat) (f : Addr) (sp : Sp) : Prop where
  ex : ∃ (fd : FuncData) (ps : List Str), FnOk P w K mg base (L2.CX P w) k f fd ps sp ∧ PySem.W.keepIn K (.ref f) = true ∧ Binds K fd ps []
def tCallF (i : Nat) (S : Addr → Prop) (sp : Sp) (E : XK) (t : TA) : TE := fun σ H Q => ∃ f, σ[i]? = some (some (.ref f)) ∧ S f ∧ t σ H fun vs H1 => sp vs H1 Q E
theorem pe_callF {X : Cx} {S : Addr → Prop} {sp : Sp} {k i : Nat} {E : XK} {x : Str} {p pos : Pos} {e : Expr} {es : List Expr} {t : TA} (A : ∀ f, S f → HeldX X.prog X.w X.K X.mg X.base k f sp) (hr : Room k X.A) (hN : X.N[i]? = some x) (hv : Vis X.env.scope x)
    (hx : Passes (L2.CX X.prog X.w) X E) (ha : PA X (e :: es) t) (hdb : (x == ("__debug__" : Str)) = false := by decide) (hcd : (x == ("__classdict__" : Str)) = false := by decide)
    (he : starEach (e :: es) X.env = (false, eval e X.env) :: starEach es X.env := by rfl) (hpl : (backTo pos (starEach es X.env)).any (·.1) = false := by rfl) : PE X (.Call (.Name x p) (e :: es) [] pos) (tCallF i S sp E t) := by
  refine ⟨fun pins s σ H Q I h => ?_⟩
  obtain ⟨f, hs, hS, ht⟩ := h
  obtain ⟨fd, ps, F, kp, b⟩ := (A f hS).ex
  refine (pe_callL (i := i) (f := f) (dvs := []) (E := E) F hr hN hv kp b .nil hx ha hdb hcd he hpl).run pins s σ H Q I ⟨hs, ?_⟩
  have z : (fun (vs : List V) (H1 : Hp) => sp (vs ++ []) H1 Q E) = fun vs H1 => sp vs H1 Q E := by
    funext vs H1
    rw [List.append_nil]
  rw [z]
  exact ht

end Vf

set_option maxRecDepth 100000
set_option maxHeartbeats 4000000
/-! rules: lcm; + - * of an object of a class with anything -/
namespace PySem.W
open PySem PySem.Spec PyProof.Rows
section
variable {prog : Program} {w : World} {A : Around} {E : Value → Shared → Prop} {s : Shared} {K : Frag} {x C L f g : Addr} {h₀ : Heap} {m : Str → Option Value} {ox : Obj} {od : Option Obj}
/-- whether a built-in type has a slot for the operator -/
def slotB (r1 r2 : Option Value) : Bool := (r1.isSome && !isSeqSlot r1) || (r2.isSome && !isSeqSlot r2)
theorem fills_type {M : Model} {h : Heap} {nm t : String} {r1 r2 : Option Value} (X : K.In h) (h1 : findIn K (.type t) (PySem.dunder nm) = some r1) (h2 : findIn K (.type t) (PySem.dunderR nm) = some r2) : Looks M h (fillsNumberSlot (.type t) nm) (slotB r1 r2) := by
  intro A Q E s k q
  unfold fillsNumberSlot
  refine wpAny_bind (looks_findIn X h1 A _ E s k ?_)
  refine wpAny_bind (looks_findIn X h2 A _ E s k ?_)
  exact wpAny_pure q
theorem own_slot {M : Model} {h : Heap} {nm : String} (X : K.In h) (hs : findIn K (.ref C) (PySem.dunder nm) = some (some (.ref f))) (hR : findIn K (.ref C) (PySem.dunderR nm) = some (some (.ref g))) : Looks M h (numberSlotInPython (.ref C) nm) true := by
  intro A Q E s k q
  unfold numberSlotInPython
  refine wpAny_bind (looks_findIn X hs A _ E s k ?_)
  refine wpAny_bind (wpAny_pure ?_)
  refine wpAny_bind (looks_findIn X hR A _ E s k ?_)
  refine wpAny_bind (wpAny_pure ?_)
  exact wpAny_pure q
theorem type_slot {M : Model} {h : Heap} {nm t : String} : Looks M h (numberSlotInPython (.type t) nm) false := by
  intro A Q E s k q
  unfold numberSlotInPython
  exact wpAny_pure q
/-- left an object of the class at C, right of a built-in type -/
theorem binop_left {op : Operator} {b : Value} {t : String} {r1 r2 : Option Value} {Q : Value → Shared → Prop} (F : Fr h₀ L s.heap m) (X₀ : K.In h₀) (I : InstAt s.heap x ox C od) (hb : Looks (model prog w) s.heap (typeOf b) (.type t)) (hc : selfFirst K C = true)
    (hs : findIn K (.ref C) (PySem.dunder op.info.2) = some (some (.ref f))) (hf : isFn K (.ref f) = true) (hR : findIn K (.ref C) (PySem.dunderR op.info.2) = some (some (.ref g)))
    (h1 : findIn K (.type t) (PySem.dunder op.info.2) = some r1) (h2 : findIn K (.type t) (PySem.dunderR op.info.2) = some r2) (sub : subIn K (.type t) (.ref C) = some false)
    (h : wpAny (model prog w) A (call (.ref f) [.ref x, b]) (CmpBack Q) E s) : wpAny (model prog w) A (binaryOp op (.ref x) b) Q E s := by
  have X := X₀.keeps F.keep
  obtain ⟨cd, hcd, hm⟩ := any_some hc
  obtain ⟨rest, hm⟩ : ∃ rest, cd.mro = .ref C :: rest := by
    cases q : cd.mro with
    | nil => rw [q] at hm; cases hm
    | cons a r => rw [q] at hm; exact ⟨r, by rw [List.head?_cons] at hm; cases (beq_iff_eq.mp hm); rfl⟩
  unfold binaryOp
  refine wpAny_holding (wpAny_bind ?_)
  unfold binaryOp1
  refine wpAny_bind (I.type.here (wpAny_bind (hb.here (wpAny_bind ((fills_K X hcd hm hs).here ?_)))))
  have ne : (Value.ref C == Value.type t) = false := by rfl
  simp only [ne, if_neg Bool.false_ne_true]
  refine wpAny_bind ((fills_type X h1 h2).here ?_)
  have fin : wpAny (model prog w) A (tryMethod (.ref x) (PySem.dunder op.info.2) b) (fun r s' => ∃ v, r = some v ∧ Q v s') E s := by
    unfold tryMethod
    refine wpAny_bind (special_fn X I hs (beq_iff_eq.mp hf) (wpAny_mono h (fun v s' hv => ?_) fun _ _ e => e))
    cases v <;> first | exact hv.elim | exact wpAny_pure ⟨_, rfl, hv⟩
  cases hsl : slotB r1 r2 with
  | false =>
    simp only [Bool.and_false, Bool.false_eq_true, if_false, Bool.false_and]
    refine wpAny_bind (wpAny_pure ?_)
    simp only [Bool.false_eq_true, if_false]
    refine wpAny_bind (wpAny_mono fin (fun r s' z => ?_) fun _ _ e => e)
    obtain ⟨v, rfl, q⟩ := z
    exact wpAny_pure (wpAny_pure q)
  | true =>
    simp only [Bool.and_self, if_true]
    refine wpAny_bind ((looks_subIn X sub).here ?_)
    simp only [Bool.false_eq_true, if_false, Bool.not_false, Bool.and_self, if_true]
    refine wpAny_bind ((own_slot X hs hR).here ?_)
    simp only [if_true]
    refine wpAny_bind ((type_slot).here ?_)
    simp only [Bool.not_false, if_true]
    refine wpAny_bind ((looks_findIn X h2).here ?_)
    refine wpAny_bind (wpAny_mono fin (fun r s' z => ?_) fun _ _ e => e)
    obtain ⟨v, rfl, q⟩ := z
    exact wpAny_pure (wpAny_pure q)
/-- left of a built-in type without such a slot, right an object of the class at C -/
theorem binop_right {op : Operator} {a : Value} {t : String} {r1 r2 : Option Value} {Q : Value → Shared → Prop} (F : Fr h₀ L s.heap m) (X₀ : K.In h₀) (I : InstAt s.heap x ox C od) (ha : Looks (model prog w) s.heap (typeOf a) (.type t)) (hc : selfFirst K C = true)
    (hs : findIn K (.ref C) (PySem.dunder op.info.2) = some (some (.ref f))) (hR : findIn K (.ref C) (PySem.dunderR op.info.2) = some (some (.ref g))) (hg : isFn K (.ref g) = true)
    (h1 : findIn K (.type t) (PySem.dunder op.info.2) = some r1) (h2 : findIn K (.type t) (PySem.dunderR op.info.2) = some r2) (sub : subIn K (.ref C) (.type t) = some false)
    (hl : slotB r1 r2 = true → ∀ (Q : Option Value → Shared → Prop), Q none s → wpAny (model prog w) A (tryMethod a (PySem.dunder op.info.2) (.ref x)) Q E s)
    (h : wpAny (model prog w) A (call (.ref g) [.ref x, a]) (CmpBack Q) E s) : wpAny (model prog w) A (binaryOp op a (.ref x)) Q E s := by
  have X := X₀.keeps F.keep
  obtain ⟨cd, hcd, hm⟩ := any_some hc
  obtain ⟨rest, hm⟩ : ∃ rest, cd.mro = .ref C :: rest := by
    cases q : cd.mro with
    | nil => rw [q] at hm; cases hm
    | cons a r => rw [q] at hm; exact ⟨r, by rw [List.head?_cons] at hm; cases (beq_iff_eq.mp hm); rfl⟩
  have fin : wpAny (model prog w) A (tryMethod (.ref x) (PySem.dunderR op.info.2) a) (fun r s' => ∃ v, r = some v ∧ Q v s') E s := by
    unfold tryMethod
    refine wpAny_bind (special_fn X I hR (beq_iff_eq.mp hg) (wpAny_mono h (fun v s' hv => ?_) fun _ _ e => e))
    cases v <;> first | exact hv.elim | exact wpAny_pure ⟨_, rfl, hv⟩
  unfold binaryOp
  refine wpAny_holding (wpAny_bind ?_)
  unfold binaryOp1
  refine wpAny_bind (ha.here (wpAny_bind (I.type.here (wpAny_bind ((fills_type X h1 h2).here ?_)))))
  have ne : (Value.type t == Value.ref C) = false := by rfl
  simp only [ne, if_neg Bool.false_ne_true]
  refine wpAny_bind ((fills_K X hcd hm hs).here ?_)
  cases hsl : slotB r1 r2 with
  | false =>
    simp only [Bool.and_false, Bool.false_eq_true, if_false, Bool.false_and]
    refine wpAny_bind (wpAny_pure ?_)
    simp only [Bool.false_eq_true, if_false, Bool.not_false, Bool.and_self, if_true]
    refine wpAny_bind (wpAny_mono fin (fun r s' z => ?_) fun _ _ e => e)
    obtain ⟨v, rfl, q⟩ := z
    first
      | exact wpAny_bind (wpAny_rule (wpAny_pure (wpAny_pure q)))
      | exact wpAny_rule (wpAny_pure (wpAny_pure q))
  | true =>
    simp only [Bool.and_self, if_true]
    refine wpAny_bind ((looks_subIn X sub).here ?_)
    simp only [Bool.false_eq_true, if_false, Bool.not_false, Bool.and_self, if_true]
    refine wpAny_bind ((type_slot).here ?_)
    simp only [Bool.false_eq_true, if_false]
    refine wpAny_bind (hl hsl _ ?_)
    refine wpAny_bind (wpAny_mono fin (fun r s' z => ?_) fun _ _ e => e)
    obtain ⟨v, rfl, q⟩ := z
    first
      | exact wpAny_bind (wpAny_rule (wpAny_pure (wpAny_pure q)))
      | exact wpAny_rule (wpAny_pure (wpAny_pure q))
/-- - of an object of the class at C -/
theorem neg_own {Q : Value → Shared → Prop} (F : Fr h₀ L s.heap m) (X₀ : K.In h₀) (I : InstAt s.heap x ox C od) (hs : findIn K (.ref C) "__neg__" = some (some (.ref f))) (hf : isFn K (.ref f) = true)
    (h : wpAny (model prog w) A (call (.ref f) [.ref x]) Q E s) : wpAny (model prog w) A (unaryOp .USub (.ref x)) Q E s := by
  have X := X₀.keeps F.keep
  unfold unaryOp
  refine wpAny_holding ?_
  refine wpAny_ite_false (by rfl) ?_
  refine wpAny_bind (special_fn X I hs (beq_iff_eq.mp hf) (wpAny_mono h (fun v s' hv => ?_) fun _ _ e => e))
  exact wpAny_pure hv
end
end PySem.W

set_option maxRecDepth 100000
set_option maxHeartbeats 4000000
namespace PySem.W
open PySem PySem.Spec PyProof.Rows
section
variable {prog : Program} {w : World} {A : Around} {E : Value → Shared → Prop} {s : Shared} {x C dx : Addr} {i : Int} {t : Tok}
theorem intBinary_none {name : String} {f : Int → Int → Sem Fin} {R : Fin → Shared → Prop} (hs : slotArgs name 1 ⟨[.int i t, .ref x], []⟩ = pure (Value.int i t, [Value.ref x])) (hx : s.heap.get? x = some (instObj C dx)) (h : R (.done (.ret .notImplemented)) s) :
    wpAny (model prog w) A (Builtin.Int.intBinary name f false ⟨[.int i t, .ref x], []⟩) R E s := by
  unfold Builtin.Int.intBinary
  refine wpAny_bind (wpAny_of_eq hs ?_)
  refine wpAny_bind (wpAny_of_eq (a := i) rfl ?_)
  show wpAny (model prog w) A (asInt? (.ref x) >>= _) _ _ _
  unfold asInt?
  refine wpAny_bind (wpAny_bind (wpAny_load hx (wpAny_pure ?_)))
  first
    | exact wpAny_bind (wpAny_rule (wpAny_pure h))
    | exact wpAny_rule (wpAny_pure h)
theorem int_none {nm : Str} {id : String} {Q : Option Value → Shared → Prop} (sl : Slot "int" nm id) (y : wpAny (model prog w) A (call (.builtin id) [.int i t, .ref x]) (fun v s' => v = .notImplemented ∧ Q none s') E s) : wpAny (model prog w) A (tryMethod (.int i t) nm (.ref x)) Q E s := by
  have ty : s.TypeIs (.int i t) "int" := typeIs_int _ _ _
  unfold tryMethod
  refine wpAny_bind ?_
  refine wpAny_mono (wpAny_callSpecial?_slot (Q := fun v s' => v = some .notImplemented ∧ Q none s') ty sl (wpAny_mono y (fun v s' z => ?_) fun _ _ e => e)) (fun v s' z => ?_) fun _ _ e => e
  · obtain ⟨rfl, q⟩ := z
    exact ⟨rfl, q⟩
  · obtain ⟨rfl, q⟩ := z
    exact wpAny_pure q
theorem int_add_none {Q : Option Value → Shared → Prop} (hx : s.heap.get? x = some (instObj C dx)) (h : Q none s) : wpAny (model prog w) A (tryMethod (.int i t) (PySem.dunder "add") (.ref x)) Q E s := by
  have ha : argsOk "int.__add__" ⟨[.int i t, .ref x], []⟩ := PySem.F.args_int_add_2 _ _
  have ty : s.TypeIs (.int i t) "int" := typeIs_int _ _ _
  have y : wpAny (model prog w) A (call (.builtin "int.__add__") [.int i t, .ref x]) (fun v s' => v = .notImplemented ∧ Q none s') E s := by
    refine wpAny_call_entry (b := Builtin.«int.__add__») (T := "int") (name := PySem.dunder "add") (id := "int.__add__") PySem.F.slot_int_add ty PySem.F.entry_int_add ?_ ha
    exact intBinary_none (name := "__add__") (by rfl) hx ⟨_, rfl, rfl, h⟩
  have sl : Slot "int" (PySem.dunder "add") "int.__add__" := PySem.F.slot_int_add
  generalize PySem.dunder "add" = nm at sl ⊢
  exact int_none sl y
theorem int_sub_none {Q : Option Value → Shared → Prop} (hx : s.heap.get? x = some (instObj C dx)) (h : Q none s) : wpAny (model prog w) A (tryMethod (.int i t) (PySem.dunder "sub") (.ref x)) Q E s := by
  have ha : argsOk "int.__sub__" ⟨[.int i t, .ref x], []⟩ := PySem.F.args_int_sub_2 _ _
  have ty : s.TypeIs (.int i t) "int" := typeIs_int _ _ _
  have y : wpAny (model prog w) A (call (.builtin "int.__sub__") [.int i t, .ref x]) (fun v s' => v = .notImplemented ∧ Q none s') E s := by
    refine wpAny_call_entry (b := Builtin.«int.__sub__») (T := "int") (name := PySem.dunder "sub") (id := "int.__sub__") PySem.F.slot_int_sub ty PySem.F.entry_int_sub ?_ ha
    exact intBinary_none (name := "__sub__") (by rfl) hx ⟨_, rfl, rfl, h⟩
  have sl : Slot "int" (PySem.dunder "sub") "int.__sub__" := PySem.F.slot_int_sub
  generalize PySem.dunder "sub" = nm at sl ⊢
  exact int_none sl y
theorem int_mul_none {Q : Option Value → Shared → Prop} (hx : s.heap.get? x = some (instObj C dx)) (h : Q none s) : wpAny (model prog w) A (tryMethod (.int i t) (PySem.dunder "mul") (.ref x)) Q E s := by
  have ha : argsOk "int.__mul__" ⟨[.int i t, .ref x], []⟩ := PySem.F.args_int_mul_2 _ _
  have ty : s.TypeIs (.int i t) "int" := typeIs_int _ _ _
  have y : wpAny (model prog w) A (call (.builtin "int.__mul__") [.int i t, .ref x]) (fun v s' => v = .notImplemented ∧ Q none s') E s := by
    refine wpAny_call_entry (b := Builtin.«int.__mul__») (T := "int") (name := PySem.dunder "mul") (id := "int.__mul__") PySem.F.slot_int_mul ty PySem.F.entry_int_mul ?_ ha
    exact intBinary_none (name := "__mul__") (by rfl) hx ⟨_, rfl, rfl, h⟩
  have sl : Slot "int" (PySem.dunder "mul") "int.__mul__" := PySem.F.slot_int_mul
  generalize PySem.dunder "mul" = nm at sl ⊢
  exact int_none sl y
end
end PySem.W

set_option maxRecDepth 100000
set_option maxHeartbeats 4000000
/-! ratios and rows of them as numbers: the mathematics -/
namespace Vf
/-- a number as its pair -/
def pq (r : Rat) : Int × Int := (r.num, (r.den : Int))
theorem low_pq {t b : Int} (h : b ≠ 0) : low t b = pq (Rat.divInt t b) := by
  obtain ⟨x, y, e1, e2, hp, ho⟩ := sg_dvd (t := t) h
  have s := sg_ne (t := t) h
  have e : Rat.divInt t b = Rat.divInt x y := by
    calc Rat.divInt t b = Rat.divInt (sg t b * x) (sg t b * y) := by rw [← e1, ← e2]
      _ = Rat.divInt x y := Rat.divInt_mul_left s
  rw [low_eq h e1 e2, e]
  obtain ⟨n, rfl⟩ := Int.eq_ofNat_of_zero_le (Int.le_of_lt hp)
  have hn : n ≠ 0 := by omega
  have ho' : x.natAbs.Coprime n := ho
  have e2 : Rat.divInt x (n : Int) = ⟨x, n, hn, ho'⟩ := by
    rw [Rat.divInt_ofNat, Rat.mk_eq_mkRat]
  rw [e2]
  rfl
theorem pq_low (r : Rat) : Low (pq r).1 (pq r).2 := ⟨by have := r.den_pos; show (0 : Int) < (r.den : Int); omega, r.reduced⟩
theorem pq_inj {a b : Rat} (h : pq a = pq b) : a = b := by
  have h1 := congrArg Prod.fst h
  have h2 := congrArg Prod.snd h
  exact Rat.ext h1 (Int.ofNat.inj h2)
theorem low_is_pq {p : Int × Int} (h : Low p.1 p.2) : ∃ r : Rat, p = pq r := by
  refine ⟨Rat.divInt p.1 p.2, ?_⟩
  rw [← low_pq (by have := h.pos; omega), low_id h]
theorem cast_ne {M : Int} (h : M ≠ 0) : (M : Rat) ≠ 0 := fun z => h (by exact_mod_cast z)
theorem low_mul {A M : Int} {q : Rat} (hM : M ≠ 0) (h : q * (M : Rat) = (A : Rat)) : low A M = pq q := by
  rw [low_pq hM, Rat.divInt_eq_div]
  congr 1
  rw [← h, Rat.mul_div_cancel (cast_ne hM)]
theorem low_add (a b : Rat) : low (a.num * b.den + b.num * a.den) (a.den * b.den) = pq (a + b) := by
  have h : ((a.den : Int) * (b.den : Int)) ≠ 0 := by
    have := a.den_nz
    have := b.den_nz
    exact Int.mul_ne_zero (by omega) (by omega)
  rw [low_pq h, Rat.add_def', ← Rat.divInt_ofNat]
  congr 1
theorem low_times (a b : Rat) : low (a.num * b.num) (a.den * b.den) = pq (a * b) := by
  have h : ((a.den : Int) * (b.den : Int)) ≠ 0 := by
    have := a.den_nz
    have := b.den_nz
    exact Int.mul_ne_zero (by omega) (by omega)
  rw [low_pq h, Rat.mul_def', ← Rat.divInt_ofNat]
  congr 1
/-- a number is a whole part of 1 / M, at most N of them -/
def Fr (M N : Nat) (r : Rat) : Prop := ∃ n : Int, r * (M : Rat) = (n : Rat) ∧ n.natAbs ≤ N
theorem Fr.size {M N : Nat} {r : Rat} (hM : 0 < M) (h : Fr M N r) : r.num.natAbs ≤ N ∧ r.den ≤ M := by
  obtain ⟨n, e, hn⟩ := h
  have hM' : (M : Int) ≠ 0 := by omega
  have z := low_mul (A := n) (M := (M : Int)) (q := r) hM' (by exact_mod_cast e)
  obtain ⟨s1, s2⟩ := low_size (t := n) hM'
  rw [z] at s1 s2
  have s1 : r.num.natAbs ≤ n.natAbs := s1
  have s2 : (r.den : Int).natAbs ≤ (M : Int).natAbs := s2
  omega
theorem Fr.add {M N N' : Nat} {a b : Rat} (h : Fr M N a) (h' : Fr M N' b) : Fr M (N + N') (a + b) := by
  obtain ⟨n, e, hn⟩ := h
  obtain ⟨n', e', hn'⟩ := h'
  refine ⟨n + n', ?_, by omega⟩
  rw [Rat.add_mul, e, e']
  exact_mod_cast rfl
theorem Fr.mul {M N M' N' : Nat} {a b : Rat} (h : Fr M N a) (h' : Fr M' N' b) : Fr (M * M') (N * N') (a * b) := by
  obtain ⟨n, e, hn⟩ := h
  obtain ⟨n', e', hn'⟩ := h'
  refine ⟨n * n', ?_, ?_⟩
  · have : ((M * M' : Nat) : Rat) = (M : Rat) * (M' : Rat) := by exact_mod_cast rfl
    have h2 : ((n * n' : Int) : Rat) = (n : Rat) * (n' : Rat) := by exact_mod_cast rfl
    rw [this, h2, ← e, ← e']
    grind
  · rw [Int.natAbs_mul]
    exact Nat.mul_le_mul hn hn'
theorem Fr.neg {M N : Nat} {a : Rat} (h : Fr M N a) : Fr M N (-a) := by
  obtain ⟨n, e, hn⟩ := h
  refine ⟨-n, ?_, by omega⟩
  rw [Rat.neg_mul, e]
  exact_mod_cast rfl
theorem Fr.scale {M N : Nat} {a : Rat} (k : Nat) (h : Fr M N a) : Fr (M * k) (N * k) a := by
  obtain ⟨n, e, hn⟩ := h
  refine ⟨n * k, ?_, ?_⟩
  · have : ((M * k : Nat) : Rat) = (M : Rat) * (k : Rat) := by exact_mod_cast rfl
    have h2 : ((n * k : Int) : Rat) = (n : Rat) * (k : Rat) := by exact_mod_cast rfl
    rw [this, h2, ← e]
    grind
  · rw [Int.natAbs_mul, Int.natAbs_natCast]
    exact Nat.mul_le_mul_right _ hn
theorem Fr.zero (M N : Nat) : Fr M N 0 := ⟨0, by rw [Rat.zero_mul]; rfl, Nat.zero_le _⟩
theorem Fr.le {M N N' : Nat} {a : Rat} (h : Fr M N a) (e : N ≤ N') : Fr M N' a := by
  obtain ⟨n, e1, hn⟩ := h
  exact ⟨n, e1, by omega⟩
theorem Fr.self (r : Rat) : Fr r.den r.num.natAbs r := by
  refine ⟨r.num, ?_, Nat.le_refl _⟩
  have h : (r.den : Rat) ≠ 0 := by
    have := r.den_nz
    exact_mod_cast this
  have z : (r.num : Rat) / (r.den : Rat) = r := by
    have := Rat.num_divInt_den r
    rw [Rat.divInt_eq_div] at this
    exact_mod_cast this
  rw [← z]
  rw [z]
  have := Rat.div_mul_cancel (a := (r.num : Rat)) h
  rw [z] at this
  exact this
theorem Fr.dvd {M M' N : Nat} {a : Rat} (h : Fr M N a) (d : M ∣ M') : ∃ k, M' = M * k ∧ Fr M' (N * k) a := by
  obtain ⟨k, e⟩ := d
  exact ⟨k, e, by rw [e]; exact h.scale k⟩
/-- below 2 ^ 4300 above and below -/
def Sr (r : Rat) : Prop := r.num.natAbs < 2 ^ 4300 ∧ r.den < 2 ^ 4300
theorem Fr.sr {M N : Nat} {r : Rat} (hM : 0 < M) (h : Fr M N r) (h1 : M < 2 ^ 4300) (h2 : N < 2 ^ 4300) : Sr r := by
  obtain ⟨a, b⟩ := h.size hM
  exact ⟨Nat.lt_of_le_of_lt a h2, Nat.lt_of_le_of_lt b h1⟩
/-! ### rows -/
def cf (l : List Rat) (i : Nat) : Rat := l.getD i 0
theorem cf_lt {l : List Rat} {i : Nat} (h : i < l.length) : cf l i = l[i] := by
  unfold cf
  rw [List.getD_eq_getElem?_getD, List.getElem?_eq_getElem h]
  rfl
theorem cf_get {l : List Rat} {i : Nat} {x : Rat} (h : l[i]? = some x) : cf l i = x := by
  unfold cf
  rw [List.getD_eq_getElem?_getD, h]
  rfl
theorem cf_ge {l : List Rat} {i : Nat} (h : l.length ≤ i) : cf l i = 0 := by
  unfold cf
  rw [List.getD_eq_getElem?_getD, List.getElem?_eq_none h]
  rfl
theorem cf_nil (i : Nat) : cf [] i = 0 := rfl
theorem cf_app {l r : List Rat} {i : Nat} : cf (l ++ r) i = if i < l.length then cf l i else cf r (i - l.length) := by
  unfold cf
  rw [List.getD_eq_getElem?_getD, List.getD_eq_getElem?_getD, List.getD_eq_getElem?_getD]
  split
  · rw [List.getElem?_append_left (by assumption)]
  · rw [List.getElem?_append_right (by omega)]
/-- a row without zeros behind -/
def stripQ (l : List Rat) : List Rat := (l.reverse.dropWhile fun r => r == 0).reverse
theorem stripQ_snoc (l : List Rat) (x : Rat) : stripQ (l ++ [x]) = if x = 0 then stripQ l else l ++ [x] := by
  unfold stripQ
  rw [List.reverse_append]
  simp only [List.reverse_cons, List.reverse_nil, List.nil_append, List.singleton_append, List.dropWhile_cons, beq_iff_eq]
  split
  · rfl
  · rw [List.reverse_cons, List.reverse_reverse]
theorem strip_map (l : List Rat) : strip (l.map pq) = (stripQ l).map pq := by
  refine snoc_ind (P := fun l => strip (l.map pq) = (stripQ l).map pq) rfl (fun l x ih => ?_) l
  rw [List.map_append, List.map_cons, List.map_nil, strip_snoc, stripQ_snoc, ih]
  have e : ((pq x).1 = 0) ↔ x = 0 := Rat.num_eq_zero
  by_cases h : x = 0
  · rw [if_pos h, if_pos (e.mpr h)]
  · rw [if_neg h, if_neg (fun z => h (e.mp z)), List.map_append]
    rfl
theorem cf_stripQ (l : List Rat) : ∀ i, cf (stripQ l) i = cf l i := by
  refine snoc_ind (P := fun l => ∀ i, cf (stripQ l) i = cf l i) (fun i => rfl) (fun l x ih i => ?_) l
  rw [stripQ_snoc]
  split
  · rename_i h
    rw [ih, cf_app, h]
    split
    · rfl
    · rename_i h2
      rw [cf_ge (by omega)]
      by_cases h3 : i - l.length = 0
      · rw [h3]; rfl
      · rw [cf_ge (show ([0] : List Rat).length ≤ i - l.length by show 1 ≤ _; omega)]
  · rfl
/-- no zero behind -/
def Stp (l : List Rat) : Prop := ∀ r x, l = r ++ [x] → x ≠ 0
theorem stripQ_stp (l : List Rat) : Stp (stripQ l) := by
  refine snoc_ind (P := fun l => Stp (stripQ l)) (fun r x h => by simp [stripQ] at h) (fun l y ih r x h => ?_) l
  rw [stripQ_snoc] at h
  split at h
  · exact ih r x h
  · have z := (List.append_inj' h rfl).2
    cases z
    assumption
theorem stripQ_id {l : List Rat} (h : Stp l) : stripQ l = l := by
  rcases snoc_cases l with e | ⟨r, x, e⟩
  · rw [e]; rfl
  · have z := h r x e
    rw [e, stripQ_snoc, if_neg z]
theorem stp_last {l : List Rat} (h : Stp l) (hl : 0 < l.length) : cf l (l.length - 1) ≠ 0 := by
  rcases snoc_cases l with e | ⟨r, x, e⟩
  · rw [e] at hl; cases hl
  · have z := h r x e
    rw [e, List.length_append]
    show cf (r ++ [x]) (r.length + 1 - 1) ≠ 0
    rw [cf_app, if_neg (by omega)]
    rw [show r.length + 1 - 1 - r.length = 0 by omega]
    exact z
theorem stp_len {a b : List Rat} (h : Stp a) (e : ∀ i, cf a i = cf b i) : a.length ≤ b.length := by
  rcases Nat.lt_or_ge b.length a.length with z | z
  · have q := stp_last h (by omega)
    rw [e, cf_ge (by omega)] at q
    exact absurd rfl q
  · exact z
theorem stp_ext {a b : List Rat} (ha : Stp a) (hb : Stp b) (e : ∀ i, cf a i = cf b i) : a = b := by
  have h1 := stp_len ha e
  have h2 := stp_len hb fun i => (e i).symm
  refine List.ext_getElem (by omega) fun i p q => ?_
  have z := e i
  rw [cf_lt p, cf_lt q] at z
  exact z
theorem stripQ_ext {a b : List Rat} (e : ∀ i, cf a i = cf b i) : stripQ a = stripQ b :=
  stp_ext (stripQ_stp a) (stripQ_stp b) fun i => by rw [cf_stripQ, cf_stripQ, e]
/-- the row of n numbers -/
def tab (n : Nat) (f : Nat → Rat) : List Rat := (List.range n).map f
theorem tab_len (n : Nat) (f : Nat → Rat) : (tab n f).length = n := by unfold tab; rw [List.length_map, List.length_range]
theorem cf_tab (n : Nat) (f : Nat → Rat) (i : Nat) : cf (tab n f) i = if i < n then f i else 0 := by
  by_cases h : i < n
  · rw [if_pos h]
    refine cf_get ?_
    unfold tab
    rw [List.getElem?_map, List.getElem?_range h]
    rfl
  · rw [if_neg h, cf_ge (by rw [tab_len]; omega)]
theorem tab_snoc (n : Nat) (f : Nat → Rat) : tab (n + 1) f = tab n f ++ [f n] := by
  unfold tab
  rw [List.range_succ, List.map_append]
  rfl
def padd (a b : List Rat) : List Rat := tab (max a.length b.length) fun i => cf a i + cf b i
theorem cf_padd (a b : List Rat) (i : Nat) : cf (padd a b) i = cf a i + cf b i := by
  unfold padd
  rw [cf_tab]
  split
  · rfl
  · rw [cf_ge (show a.length ≤ i by omega), cf_ge (show b.length ≤ i by omega), Rat.add_zero]
def pscale (a : List Rat) (c : Rat) : List Rat := a.map (· * c)
theorem cf_map {f : Rat → Rat} (hf : f 0 = 0) (a : List Rat) (i : Nat) : cf (a.map f) i = f (cf a i) := by
  by_cases h : i < a.length
  · rw [cf_lt (by rw [List.length_map]; exact h), cf_lt h, List.getElem_map]
  · rw [cf_ge (by rw [List.length_map]; omega), cf_ge (by omega), hf]
/-- sums -/
def sm (f : Nat → Rat) : Nat → Rat
  | 0 => 0
  | n + 1 => sm f n + f n
theorem sm_ext {f g : Nat → Rat} : ∀ {n : Nat}, (∀ i, i < n → f i = g i) → sm f n = sm g n
  | 0, _ => rfl
  | n + 1, h => by
    show sm f n + f n = sm g n + g n
    rw [sm_ext fun i hi => h i (by omega), h n (by omega)]
theorem sm_zero {f : Nat → Rat} : ∀ {n : Nat}, (∀ i, i < n → f i = 0) → sm f n = 0
  | 0, _ => rfl
  | n + 1, h => by
    show sm f n + f n = 0
    rw [sm_zero fun i hi => h i (by omega), h n (by omega), Rat.add_zero]
theorem sm_more {f : Nat → Rat} {n : Nat} : ∀ {m : Nat}, n ≤ m → (∀ i, n ≤ i → i < m → f i = 0) → sm f m = sm f n
  | 0, h, _ => by
    have : n = 0 := by omega
    rw [this]
  | m + 1, h, z => by
    by_cases e : n = m + 1
    · rw [e]
    · show sm f m + f m = sm f n
      rw [sm_more (m := m) (by omega) fun i h1 h2 => z i h1 (by omega), z m (by omega) (by omega), Rat.add_zero]
theorem sm_fr {f : Nat → Rat} {M N : Nat} : ∀ {n : Nat}, (∀ i, i < n → Fr M N (f i)) → Fr M (n * N) (sm f n)
  | 0, _ => Fr.zero _ _
  | n + 1, h => by
    have a := sm_fr (n := n) fun i hi => h i (by omega)
    have b := h n (by omega)
    have c := a.add b
    rw [Nat.succ_mul]
    exact c
/-- the number of a power in a product -/
def pc (a b : List Rat) (k : Nat) : Rat := sm (fun i => cf a i * cf b (k - i)) (k + 1)
def pmul (a b : List Rat) : List Rat := tab (a.length + b.length - 1) (pc a b)
theorem pc_zero {a b : List Rat} {k : Nat} (h : a.length + b.length ≤ k + 1) : pc a b k = 0 := by
  unfold pc
  refine sm_zero fun i hi => ?_
  by_cases h1 : i < a.length
  · rw [cf_ge (show b.length ≤ k - i by omega), Rat.mul_zero]
  · rw [cf_ge (show a.length ≤ i by omega), Rat.zero_mul]
theorem cf_pmul (a b : List Rat) (k : Nat) : cf (pmul a b) k = pc a b k := by
  unfold pmul
  rw [cf_tab]
  split
  · rfl
  · rw [pc_zero (by omega)]
end Vf

set_option maxRecDepth 100000
set_option maxHeartbeats 4000000
/-! rules: + - * and the sign, of an object of a class; lcm -/
namespace Vf
open PySem PySem.Spec PyProof.Rows L2
theorem dun_add : PySem.dunder "add" = ("__add__" : Str) := by decide +kernel
theorem dun_sub : PySem.dunder "sub" = ("__sub__" : Str) := by decide +kernel
theorem dun_mul : PySem.dunder "mul" = ("__mul__" : Str) := by decide +kernel
theorem dunR_add : PySem.dunderR "add" = ("__radd__" : Str) := by decide +kernel
theorem dunR_sub : PySem.dunderR "sub" = ("__rsub__" : Str) := by decide +kernel
theorem dunR_mul : PySem.dunderR "mul" = ("__rmul__" : Str) := by decide +kernel
def slotT (t nm : String) : Option Bool := match PySem.fastLookup t (PySem.dunder nm), PySem.fastLookup t (PySem.dunderR nm) with
  | some a, some b => some (PySem.W.slotB a b)
  | _, _ => none
theorem slotT_ok {K : PySem.W.Frag} {t nm : String} {b : Bool} (h : slotT t nm = some b) : ∃ r1 r2, PySem.W.findIn K (.type t) (PySem.dunder nm) = some r1 ∧ PySem.W.findIn K (.type t) (PySem.dunderR nm) = some r2 ∧ PySem.W.slotB r1 r2 = b := by
  unfold slotT at h
  split at h
  · rename_i a c e1 e2
    cases h
    exact ⟨a, c, e1, e2, rfl⟩
  · cases h
theorem slot_tup_add : slotT "tuple" "add" = some false := by decide +kernel
theorem slot_tup_sub : slotT "tuple" "sub" = some false := by decide +kernel
theorem slot_tup_mul : slotT "tuple" "mul" = some false := by decide +kernel
theorem slot_int_add : slotT "int" "add" = some true := by decide +kernel
theorem slot_int_sub : slotT "int" "sub" = some true := by decide +kernel
theorem slot_int_mul : slotT "int" "mul" = some true := by decide +kernel
section
variable {X : Cx} {CX : CXT} {C f g : Addr} {k : Nat} {fd : FuncData} {ps : List Str} {sp : Sp} {E : XK}
/-- the callee's answer is no mark of a missing operator -/
theorem back {pins : List (Addr × Obj)} {σ : L2.St} {Q : VK} {z : Value} {s' : Shared} (h : EP X pins σ Q z s') : PySem.W.CmpBack (EP X pins σ Q) z s' := by
  obtain ⟨z', H', I', rz, qz⟩ := h
  exact SlX.cmpback rz ⟨z', H', I', rz, qz⟩
def rOwnS (C : Addr) (sp : Sp) (E : XK) : R2 := fun x y H Q => ∃ a dx fs b dy gs, x = .ref a ∧ y = .ref b ∧ H a = some (.ins C dx fs) ∧ H b = some (.ins C dy gs) ∧ sp [x, y] H Q E
theorem op_ownS {op : Operator} (hs : PySem.W.findIn X.K (.ref C) (PySem.dunder op.info.2) = some (some (.ref g))) (hf : PySem.W.isFn X.K (.ref g) = true) (sf : PySem.W.selfFirst X.K C = true)
    (F : FnOk X.prog X.w X.K X.mg X.base CX k g fd ps sp) (hb : Binds X.K fd ps []) (hr : Room k X.A) (hx : Passes CX X E) : OpR X (binaryOp op) (rOwnS C sp E) := by
  intro pins s σ H x y v u Q I rx ry h
  obtain ⟨a, dx, fs, b, dy, gs, rfl, rfl, ha, hb', q⟩ := h
  cases (show v = Value.ref a from rx)
  cases (show u = Value.ref b from ry)
  obtain ⟨mA, O, _⟩ := ins_get I.hok ha
  obtain ⟨od, J, _⟩ := O.look
  obtain ⟨mB, O2, _⟩ := ins_get I.hok hb'
  obtain ⟨od2, J2, _⟩ := O2.look
  obtain ⟨m, hF⟩ := I.fr
  have hsp : sp ([V.ref a, V.ref b] ++ []) H Q E := q
  exact PySem.W.binop_K hF I.ok.mod.kin J J2.type sf hs hf (wpAny_mono (run_fn (us := [.ref a, .ref b]) (vs := [.ref a, .ref b]) F hr hb .nil hx I (.cons rfl (.cons rfl .nil)) hsp) (fun w s' z => back z) fun _ _ x => x)
def rOwnL (K : PySem.W.Frag) (C : Addr) (t : String) (sp : Sp) (E : XK) : R2 := fun x y H Q => ∃ a dx fs, x = .ref a ∧ H a = some (.ins C dx fs) ∧ TyX K H y (.type t) ∧ sp [x, y] H Q E
theorem op_ownL {op : Operator} {t : String} {rb : Bool} (hs : PySem.W.findIn X.K (.ref C) (PySem.dunder op.info.2) = some (some (.ref g))) (hf : PySem.W.isFn X.K (.ref g) = true) (sf : PySem.W.selfFirst X.K C = true)
    (hR : PySem.W.findIn X.K (.ref C) (PySem.dunderR op.info.2) = some (some (.ref f))) (st : slotT t op.info.2 = some rb) (sub : PySem.W.subIn X.K (.type t) (.ref C) = some false)
    (F : FnOk X.prog X.w X.K X.mg X.base CX k g fd ps sp) (hb : Binds X.K fd ps []) (hr : Room k X.A) (hx : Passes CX X E) : OpR X (binaryOp op) (rOwnL X.K C t sp E) := by
  intro pins s σ H x y v u Q I rx ry h
  obtain ⟨a, dx, fs, rfl, ha, ty, q⟩ := h
  cases (show v = Value.ref a from rx)
  obtain ⟨mA, O, _⟩ := ins_get I.hok ha
  obtain ⟨od, J, _⟩ := O.look
  obtain ⟨P, Z, p, _⟩ := kit_of I ry ty
  obtain ⟨m, hF⟩ := I.fr
  obtain ⟨r1, r2, h1, h2, _⟩ := slotT_ok (K := X.K) st
  have hsp : sp ([V.ref a, y] ++ []) H Q E := q
  exact PySem.W.binop_left hF I.ok.mod.kin J (Z.ty _ _ I.kIn p) sf hs hf hR h1 h2 sub (wpAny_mono (run_fn (us := [.ref a, u]) (vs := [.ref a, y]) F hr hb .nil hx I (.cons rfl (.cons ry .nil)) hsp) (fun w s' z => back z) fun _ _ x => x)
def rOwnR (K : PySem.W.Frag) (C : Addr) (t : String) (sp : Sp) (E : XK) : R2 := fun x y H Q => ∃ a dx fs, y = .ref a ∧ H a = some (.ins C dx fs) ∧ TyX K H x (.type t) ∧ sp [y, x] H Q E
/-- what the left side's own slot says of an object: nothing -/
def LeftNone (t : String) (op : Operator) : Prop := ∀ {prog : Program} {w : World} {A : Around} {E : Value → Shared → Prop} {s : Shared} {x : Addr} {C dx : Addr} {H : Hp} {K : PySem.W.Frag} {y : V} {v : Value}, TyX K H y (.type t) → RelV y v → s.heap.get? x = some (PySem.W.instObj C dx) → ∀ (Q : Option Value → Shared → Prop), Q none s → wpAny (model prog w) A (tryMethod v (PySem.dunder op.info.2) (.ref x)) Q E s
theorem op_ownR {op : Operator} {t : String} {rb : Bool} (hs : PySem.W.findIn X.K (.ref C) (PySem.dunder op.info.2) = some (some (.ref f))) (sf : PySem.W.selfFirst X.K C = true)
    (hR : PySem.W.findIn X.K (.ref C) (PySem.dunderR op.info.2) = some (some (.ref g))) (hg : PySem.W.isFn X.K (.ref g) = true) (st : slotT t op.info.2 = some rb) (sub : PySem.W.subIn X.K (.ref C) (.type t) = some false) (ln : rb = true → LeftNone t op)
    (F : FnOk X.prog X.w X.K X.mg X.base CX k g fd ps sp) (hb : Binds X.K fd ps []) (hr : Room k X.A) (hx : Passes CX X E) : OpR X (binaryOp op) (rOwnR X.K C t sp E) := by
  intro pins s σ H x y v u Q I rx ry h
  obtain ⟨a, dx, fs, rfl, ha, ty, q⟩ := h
  cases (show u = Value.ref a from ry)
  obtain ⟨mA, O, _⟩ := ins_get I.hok ha
  obtain ⟨od, J, _⟩ := O.look
  obtain ⟨_, _, _, ob, _⟩ := (show ObjOk X.prog X.w H s.heap a (.ins C dx fs) from I.hok a _ ha)
  obtain ⟨P, Z, p, _⟩ := kit_of I rx ty
  obtain ⟨m, hF⟩ := I.fr
  obtain ⟨r1, r2, h1, h2, e⟩ := slotT_ok (K := X.K) st
  have hsp : sp ([V.ref a, x] ++ []) H Q E := q
  exact PySem.W.binop_right hF I.ok.mod.kin J (Z.ty _ _ I.kIn p) sf hs hR hg h1 h2 sub (fun z Q' q' => ln (e.symm.trans z) ty rx ob Q' q')
    (wpAny_mono (run_fn (us := [.ref a, v]) (vs := [.ref a, x]) F hr hb .nil hx I (.cons rfl (.cons rx .nil)) hsp) (fun w s' z => back z) fun _ _ x => x)
theorem left_int {op : Operator} (h : op = .Add ∨ op = .Sub ∨ op = .Mult) : LeftNone "int" op := by
  intro prog w A E s x C dx H K y v ty rv hx Q q
  have key : ∀ {T : Value}, TyX K H y T → T = .type "int" → ∃ i, y = V.int i := fun {T} ty e => by
    cases ty with
    | base b =>
      cases b with
      | int i => exact ⟨i, rfl⟩
      | ins _ _ _ _ _ _ => cases e
      | _ => exact absurd (Value.type.inj e) (by decide)
    | _ => exact absurd (Value.type.inj e) (by decide)
  obtain ⟨i, rfl⟩ := key ty rfl
  obtain ⟨t, rfl⟩ := (show ∃ t, v = Value.int i t from rv)
  rcases h with rfl | rfl | rfl
  · exact PySem.W.int_add_none hx q
  · exact PySem.W.int_sub_none hx q
  · exact PySem.W.int_mul_none hx q
def rNegO (C : Addr) (sp : Sp) (E : XK) : V → Hp → VK → Prop := fun x H Q => ∃ a dx fs, x = .ref a ∧ H a = some (.ins C dx fs) ∧ sp [x] H Q E
theorem un_negO (hs : PySem.W.findIn X.K (.ref C) "__neg__" = some (some (.ref g))) (hf : PySem.W.isFn X.K (.ref g) = true) (F : FnOk X.prog X.w X.K X.mg X.base CX k g fd ps sp) (hb : Binds X.K fd ps []) (hr : Room k X.A) (hx : Passes CX X E) : UnR X (unaryOp .USub) (rNegO C sp E) := by
  intro pins s σ H x v Q I rx h
  obtain ⟨a, dx, fs, rfl, ha, q⟩ := h
  cases (show v = Value.ref a from rx)
  obtain ⟨mA, O, _⟩ := ins_get I.hok ha
  obtain ⟨od, J, _⟩ := O.look
  obtain ⟨m, hF⟩ := I.fr
  have hsp : sp ([V.ref a] ++ []) H Q E := q
  exact PySem.W.neg_own hF I.ok.mod.kin J hs hf (run_fn (us := [.ref a]) (vs := [.ref a]) F hr hb .nil hx I (.cons rfl .nil) hsp)
/-- math.lcm of two whole numbers -/
def rLcm : List V → Hp → VK → Prop := fun vs H Q => ∃ a b : Int, vs = [.int a, .int b] ∧ a.natAbs < 2 ^ 8800 ∧ b.natAbs < 2 ^ 8800 ∧ Q (.int ((Nat.lcm a.natAbs b.natAbs : Nat) : Int)) H
theorem log_4000 {n : Nat} (h : n < 2 ^ 8800) : n.log2 < 8800 := by
  by_cases e : n = 0
  · rw [e]; decide
  · exact (Nat.log2_lt e).mpr h
theorem cr_lcm : CallR X (.builtin "math.lcm") rLcm := by
  intro pins s σ H vs us Q I r h
  obtain ⟨a, b, rfl, ha, hb, q⟩ := h
  obtain ⟨t, u, rfl⟩ := Vals.int2 r
  have one : Nat.lcm 1 a.natAbs = a.natAbs := Nat.lcm_one_left _
  have m1 : max 1 a.natAbs < 2 ^ 8800 := by
    have : (1 : Nat) < 2 ^ 8800 := Nat.one_lt_pow (by decide) (by decide)
    omega
  have m2 : max a.natAbs b.natAbs < 2 ^ 8800 := by omega
  have l1 := log_4000 m1
  have l2 := log_4000 m2
  have sz : ((((Nat.lcm 1 a.natAbs).lcm b.natAbs : Nat) : Int)).natAbs.log2 < bitsLine := by
    rw [one, Int.natAbs_natCast]
    have le : a.natAbs.lcm b.natAbs ≤ a.natAbs * b.natAbs := by
      rw [← Nat.gcd_mul_lcm]
      by_cases z : a.natAbs.gcd b.natAbs = 0
      · have : a.natAbs.lcm b.natAbs = 0 := by unfold Nat.lcm; rw [Nat.gcd_eq_zero_iff.mp z |>.1]; simp
        rw [this]; omega
      · exact Nat.le_mul_of_pos_left _ (by omega)
    have lt : a.natAbs.lcm b.natAbs < 2 ^ 17600 := by
      refine Nat.lt_of_le_of_lt le ?_
      rw [show (17600 : Nat) = 8800 + 8800 from rfl, Nat.pow_add]
      exact Nat.mul_lt_mul'' ha hb
    by_cases e : a.natAbs.lcm b.natAbs = 0
    · rw [e]; decide
    · exact Nat.lt_trans ((Nat.log2_lt e).mpr lt) (by decide)
  refine PySem.call_function_meets PySem.W.MGF.kind_lcm PySem.W.MGF.plain_lcm PySem.W.MGF.entry_lcm (PySem.W.MGF.args_lcm _ _) (PySem.W.mg_run_lcm a t b u (by omega) (by omega) sz).meets ?_
  rw [one]
  exact ⟨.int _, H, I.tok _, ⟨_, rfl⟩, q⟩
end
end Vf

set_option maxRecDepth 100000
set_option maxHeartbeats 4000000
/-! comprehensions over zip and ranges; rows of numbers at their addresses -/
namespace Vf
open PySem PySem.Spec PyProof.Rows L2
/-- a comprehension over zip(a, b), two lists alike in length -/
theorem lc_zipL {K : PySem.W.Frag} {a b : Addr} {xs ys : List V} {g : TG} {tt : TT} {te : TE} {vs : List Nat} {σ : L2.St} {H1 : Hp} {D : Addr} {Qd : Hp → Prop} (hl : xs.length = ys.length) (Pv : Nat → Hp → Prop) (h0 : Pv 0 (upd H1 D (.lst [])))
    (hq : ∀ i H, Pv i H → SqL K H a xs ∧ SqL K H b ys)
    (hs : ∀ (i : Nat) (x y : V) (T : Addr) (H : Hp), xs[i]? = some x → ys[i]? = some y → Pv i H → H T = none → g (.ref T) (wipe σ vs) (upd H T (.tup [x, y])) fun σ2 H2 => wipe σ2 vs = wipe σ vs ∧ tt σ2 H2 fun b H3 =>
      if b = true then te σ2 H3 fun y H4 => ∃ acc, H4 D = some (.lst acc) ∧ acc.length < sizeLine ∧ Pv (i + 1) (upd H4 D (.lst (acc ++ [y]))) else Pv (i + 1) H3) (hd : ∀ H, Pv xs.length H → Qd H) :
    ∃ W : Nat → Nat → Hp → Prop, (∃ m, W 0 m (upd H1 D (.lst []))) ∧ ∀ i m H, W i m H →
      (((Itz K a b).stop i H ∧ Qd H) ∨ ((Itz K a b).go i H ∧ ∃ Nx : Hp → Prop, (∀ H', Nx H' → ∃ m', m' < m ∧ W (i + 1) m' H') ∧ ∀ x H', (Itz K a b).yld i H x H' → g x (wipe σ vs) H' fun σ2 H2 => wipe σ2 vs = wipe σ vs ∧ tt σ2 H2 fun b H3 =>
        if b = true then te σ2 H3 fun y H4 => ∃ acc, H4 D = some (.lst acc) ∧ acc.length < sizeLine ∧ Nx (upd H4 D (.lst (acc ++ [y]))) else Nx H3)) := by
  refine ⟨fun i m H => m = xs.length - i ∧ i ≤ xs.length ∧ Pv i H, ⟨xs.length, by simp, Nat.zero_le _, h0⟩, ?_⟩
  rintro i m H ⟨rfl, hi, p⟩
  obtain ⟨qx, qy⟩ := hq i H p
  by_cases hlt : i < xs.length
  · have hx : xs[i]? = some xs[i] := List.getElem?_eq_getElem hlt
    have hlt2 : i < ys.length := by omega
    have hy : ys[i]? = some ys[i] := List.getElem?_eq_getElem hlt2
    refine .inr ⟨⟨xs, ys, xs[i], ys[i], qx, qy, hx, hy⟩, Pv (i + 1), fun H' p' => ⟨xs.length - (i + 1), by omega, rfl, hlt, p'⟩, fun v H' y => ?_⟩
    obtain ⟨T, x', y', e1, n, e2, h1, h2⟩ := y
    rw [e1, e2]
    exact hs i x' y' T H (h1 xs qx) (h2 ys qy) p n
  · have e : i = xs.length := by omega
    subst e
    exact .inl ⟨⟨xs, ys, qx, qy, .inl (Nat.le_refl _)⟩, hd H p⟩
/-- a tuple that tells the number q -/
def TR (H : Hp) (r : Addr) (q : Rat) : Prop := H r = some (.tup [.int q.num, .int (q.den : Int)])
theorem TR.pq {H : Hp} {r : Addr} {q : Rat} (h : TR H r q) : H r = some (.tup [.int (pq q).1, .int (pq q).2]) := h
theorem TR.same {H H' : Hp} {r : Addr} {q : Rat} (h : TR H r q) (s : Same H H') : TR H' r q := s _ _ h
/-- a list of such tuples -/
def RL (H : Hp) (l : Addr) (qs : List Rat) : Prop := ∃ as, H l = some (.lst (as.map V.ref)) ∧ Tups H as (qs.map pq)
theorem RL.same {H H' : Hp} {l : Addr} {qs : List Rat} (h : RL H l qs) (s : Same H H') : RL H' l qs := by
  obtain ⟨as, e, t⟩ := h
  exact ⟨as, s _ _ e, t.same s⟩
theorem Tups.atQ {H : Hp} {as : List Addr} {qs : List Rat} {i : Nat} {a : Addr} (h : Tups H as (qs.map pq)) (e : as[i]? = some a) : ∃ q, qs[i]? = some q ∧ TR H a q := by
  obtain ⟨p, h1, h2⟩ := h.at e
  rw [List.getElem?_map] at h1
  cases hq : qs[i]? with
  | none => rw [hq] at h1; cases h1
  | some q =>
    rw [hq] at h1
    cases h1
    exact ⟨q, rfl, h2⟩
theorem Tups.lenQ {H : Hp} {as : List Addr} {qs : List Rat} (h : Tups H as (qs.map pq)) : as.length = qs.length := by
  have := h.len
  rw [List.length_map] at this
  exact this
theorem Tups.snocQ {H : Hp} {as : List Addr} {qs : List Rat} {a : Addr} {q : Rat} (h : Tups H as (qs.map pq)) (e : TR H a q) : Tups H (as ++ [a]) ((qs ++ [q]).map pq) := by
  rw [List.map_append]
  exact h.snoc e
theorem Tups.getQ {H : Hp} {as : List Addr} {qs : List Rat} {i : Nat} (h : Tups H as (qs.map pq)) (hi : i < qs.length) : ∃ a, as[i]? = some a ∧ TR H a (cf qs i) := by
  have hl := h.lenQ
  have hi' : i < as.length := by omega
  obtain ⟨q, h1, h2⟩ := h.atQ (List.getElem?_eq_getElem hi')
  refine ⟨as[i], List.getElem?_eq_getElem hi', ?_⟩
  rw [cf_get h1]
  exact h2
theorem Tups.setQ {H : Hp} : ∀ {as : List Addr} {qs : List Rat} (i : Nat) {a : Addr} {q : Rat}, Tups H as (qs.map pq) → TR H a q → Tups H (as.set i a) ((qs.set i q).map pq)
  | [], [], _, _, _, _, _ => .nil
  | _ :: _, _ :: _, 0, _, _, .cons _ t, e => .cons e t
  | _ :: _, _ :: _, i + 1, _, _, .cons h t, e => .cons h (t.setQ i e)
theorem tr_zero {H : Hp} {r : Addr} (h : H r = some (.tup [.int 0, .int 1])) : TR H r 0 := h
theorem tups_rep0 {H : Hp} {a : Addr} (h : TR H a 0) (n : Nat) : Tups H (List.replicate n a) ((List.replicate n (0 : Rat)).map pq) := by
  rw [List.map_replicate]
  exact Tups.rep' (p := pq 0) h n
where
  Tups.rep' {H : Hp} {a : Addr} {p : Int × Int} (h : H a = some (.tup [.int p.1, .int p.2])) : ∀ n : Nat, Tups H (List.replicate n a) (List.replicate n p)
    | 0 => .nil
    | n + 1 => .cons h (Tups.rep' h n)
theorem flat_repQ (n : Nat) (a : Addr) : (List.replicate n [V.ref a]).flatten = (List.replicate n a).map V.ref := by
  rw [List.flatten_replicate_singleton, List.map_replicate]
theorem cf_rep0 (n i : Nat) : cf (List.replicate n 0) i = 0 := by
  unfold cf
  rw [List.getD_eq_getElem?_getD, List.getElem?_replicate]
  split <;> rfl
theorem cf_set {l : List Rat} {i j : Nat} {x : Rat} (h : i < l.length) : cf (l.set i x) j = if j = i then x else cf l j := by
  unfold cf
  rw [List.getD_eq_getElem?_getD, List.getD_eq_getElem?_getD, List.getElem?_set]
  by_cases e : i = j
  · rw [if_pos e, if_pos e.symm, if_pos h]
    rfl
  · rw [if_neg e, if_neg (fun z => e z.symm)]
theorem big_mulW {x y : Int} (h1 : x.natAbs < 2 ^ 8700) (h2 : y.natAbs < 2 ^ 8700) : CMulW x y := wide_mul h1 h2 (by decide) (by decide) (by decide)
theorem Sr.n {q : Rat} (h : Sr q) : q.num.natAbs < 2 ^ 8700 := Nat.lt_trans h.1 (Nat.pow_lt_pow_right (by decide) (by decide))
theorem Sr.d {q : Rat} (h : Sr q) : ((q.den : Int)).natAbs < 2 ^ 8700 := by
  rw [Int.natAbs_natCast]
  exact Nat.lt_trans h.2 (Nat.pow_lt_pow_right (by decide) (by decide))
theorem pow_add2 (a b : Nat) : (2 : Nat) ^ a * 2 ^ b = 2 ^ (a + b) := (Nat.pow_add _ _ _).symm
theorem sr_sum {a b : Rat} (ha : Sr a) (hb : Sr b) : (a.num * b.den + b.num * a.den).natAbs < 2 ^ 8800 ∧ ((a.den : Int) * b.den).natAbs < 2 ^ 8800 ∧ (a.num * b.num).natAbs < 2 ^ 8800 := by
  have m : ∀ {x y : Nat}, x < 2 ^ 4300 → y < 2 ^ 4300 → x * y < 2 ^ 8600 := fun {x y} h1 h2 => by
    have := Nat.mul_lt_mul'' h1 h2
    rw [pow_add2] at this
    exact this
  have l1 : (2 : Nat) ^ 8600 + 2 ^ 8600 = 2 ^ 8601 := by rw [show (8601 : Nat) = 8600 + 1 from rfl, Nat.pow_succ]; omega
  have l2 : (2 : Nat) ^ 8601 ≤ 2 ^ 8800 := Nat.pow_le_pow_right (by decide) (by decide)
  have l3 : (2 : Nat) ^ 8600 ≤ 2 ^ 8800 := Nat.pow_le_pow_right (by decide) (by decide)
  have m1 := m ha.1 hb.2
  have m2 := m hb.1 ha.2
  have m3 := m ha.2 hb.2
  have m4 := m ha.1 hb.1
  have e1 : (a.num * b.den).natAbs = a.num.natAbs * b.den := by rw [Int.natAbs_mul, Int.natAbs_natCast]
  have e2 : (b.num * a.den).natAbs = b.num.natAbs * a.den := by rw [Int.natAbs_mul, Int.natAbs_natCast]
  refine ⟨?_, ?_, ?_⟩
  · have := Int.natAbs_add_le (a.num * b.den) (b.num * a.den)
    omega
  · rw [Int.natAbs_mul, Int.natAbs_natCast, Int.natAbs_natCast]
    omega
  · rw [Int.natAbs_mul]
    omega
end Vf

set_option maxRecDepth 100000
set_option maxHeartbeats 8000000
namespace Vf
open PySem PySem.Spec PyProof.Rows L2
section
variable {P : Program} {w : World} {K : PySem.W.Frag} {mg : Str → Option Value} {base : Heap} {CN : Addr}
abbrev sLPoly : Stmt := topS 59
/-- the law's own row without zeros behind -/
def spLPoly (K : PySem.W.Frag) : Sp := fun vs H Q _ => ∃ (a : Addr) (as : List Addr) (ps : List (Int × Int)), vs = [.ref a] ∧ SqL K H a (as.map V.ref) ∧ Tups H as ps ∧ as.length ≤ 1000 ∧
  ∀ (l : Addr) (as' : List Addr) (H' : Hp), Same H H' → H l = none → H' l = some (.lst (as'.map V.ref)) → Tups H' as' (strip ps) → Q (.ref l) H'
theorem scLPoly : FnScope ["_law_numbers", "_law_found", "_law_lap"] ["_law_numbers"] (defScope sLPoly) := ⟨rfl, rfl, rfl, by decide +kernel, rfl, by decide +kernel, by decide +kernel⟩
theorem ok_lpoly {f : Addr} {fd : FuncData} (F : Fun K "_law_poly" "_law_poly" sLPoly f fd) (T : Bk mg) (hm1 : M1 base) : FnOk P w K mg base CX0 1 f fd ["_law_numbers"] (spLPoly K) := by
  refine F.ok scLPoly (fun vs H Q E h => ?_) (fun cdv A outer s H vs Q E hr h => ?_)
  · obtain ⟨a, as, ps, rfl, _⟩ := h
    rfl
  · obtain ⟨a, as, ps, rfl, hS, hT, hz, q⟩ := h
    refine ⟨_, (pss_cons (ps_set (i := 1) scLPoly.nd rfl (Or.inl rfl) (pe_callTy call_list_of (by rfl) T.list (by decide +kernel) (pa_cons (pv 0) pa_nil)))
  (pss_cons (ps_for PassesOwn.never rfl (pi_range1 (by rfl) T.range (pa_cons (pe_callB call_len_seq (by rfl) T.len (by decide +kernel) (pa_cons (pv 0) pa_nil)) pa_nil)) (pg_name (i := 2) scLPoly.nd rfl (Or.inl rfl))
    (pss_cons (ps_if (PW.pt (pw_or (pt_cmpR (op_eqT hr.units hm1) (pv 1) (pe_lst pa_nil) (nomark _)) (pw_or1 (pt_cmpR op_ne (pe_ix ix_tup (pe_ix ix_list (pv 1) (pe_un un_neg pe_int) (fun _ _ => rfl)) pe_int (fun _ _ => rfl)) pe_int (nomark _)))))
      (pss_one ps_break)
      pss_nil)
    (pss_one (ps_expr (pe_bm0 PySem.F.plainAttrs_list PySem.F.slot_list_pop PySem.F.type_list_pop mt_pop (pv 1))))))
  (pss_one (ps_ret (pv 1))))), ?_⟩
    refine ⟨_, rfl, a, _, rfl, .inl hS, fun l nl => ?_⟩
    have el : upd H l (HO.lst (as.map V.ref)) l = some (HO.lst (as.map V.ref)) := upd_same
    have sl : Same H (upd H l (HO.lst (as.map V.ref))) := same_upd nl
    generalize upd H l (HO.lst (as.map V.ref)) = H1 at el sl ⊢
    have lm : (as.map V.ref).length = as.length := List.length_map ..
    refine ⟨_, rfl, a, _, rfl, .inl (same_sqL sl hS), _, rfl, by omega, by omega, for_range (lo := 0) (n := (((as.map V.ref).length : Nat) : Int).toNat) (fun i σ H2 => ∃ as' qs v, σ = [some (.ref a), some (.ref l), v] ∧ Same H H2 ∧ H2 l = some (.lst (as'.map V.ref)) ∧ Tups H2 as' qs ∧ strip qs = strip ps ∧ as'.length + i = as.length)
      ⟨as, ps, none, rfl, sl, el, hT.same sl, rfl, rfl⟩ ?_ ?_⟩
    · rintro i σ H2 hi ⟨as', qs, v, rfl, s2, e2, t2, hst, hn⟩
      refine ⟨_, rfl, (by show 0 ≤ sizeLine; decide), fun l0 n0 => ?_⟩
      have l0l : l0 ≠ l := (ne_of_none e2 n0).symm
      have s3 : Same H2 (upd H2 l0 (HO.lst [])) := same_upd n0
      have e0 : upd H2 l0 (HO.lst []) l0 = some (HO.lst []) := upd_same
      generalize upd H2 l0 (HO.lst []) = H3 at s3 e0 ⊢
      have e3 := s3 _ _ e2
      have t3 := t2.same s3
      refine ⟨.list (qs.map pairD), .list (([] : List (Int × Int)).map pairD), .lst (SqL.of e3) t3.dts, .lst (SqL.of e0) .nil, (plain_row _).2, (plain_row _).2, (depth_row _).2, _, rfl, ?_⟩
      rw [eqv_rowL]
      rcases snoc_cases qs with rfl | ⟨qs, y, rfl⟩
      · rw [decide_eq_true rfl]
        refine iteT ?_
        cases t3
        refine iteT ?_
        exact ⟨_, rfl, q l [] H3 (s2.trans s3) nl e3 (by rw [← hst]; exact .nil)⟩
      · rw [decide_eq_false (by simp)]
        refine iteF ?_
        obtain ⟨as2, r, rfl, t4, er⟩ := t3.unsnoc
        refine ⟨_, rfl, _, rfl, l, _, _, .ref r, rfl, rfl, SqL.of e3, (by rw [List.map_append]; exact atI_last _ _), r, _, _, .int y.1, rfl, rfl, SqT.of er, at_of (j := 0) rfl rfl, rfl, _, rfl, ?_⟩
        by_cases y0 : y.1 = 0
        · rw [decide_eq_true (by rw [y0])]
          refine iteF ?_
          refine ⟨_, rfl, .inl ⟨rfl, _, SqL.of e3⟩, l, _, .ref r, rfl, rfl, e3, (by simp), ?_⟩
          refine ⟨as2, qs, _, rfl, fun b o eb => ?_, ?_, ?_, ?_, ?_⟩
          · rw [upd_ne (ne_of_none eb nl)]
            exact s3 _ _ (s2 _ _ eb)
          · rw [upd_same, List.map_append]
            simp
          · refine t4.imp fun c p z => ?_
            rw [upd_ne (ne_of z e3 (by intro z; cases z))]
            exact z
          · rw [strip_snoc, if_pos y0] at hst
            exact hst
          · rw [List.length_append] at hn
            simp at hn
            omega
        · rw [decide_eq_false (fun z => y0 (by have z2 := V.int.inj z; exact z2))]
          refine iteT ?_
          refine ⟨_, rfl, q l (as2 ++ [r]) H3 (s2.trans s3) nl e3 ?_⟩
          rw [← hst, strip_snoc, if_neg y0]
          exact t3
    · rintro σ H2 ⟨as', qs, v, rfl, s2, e2, t2, hst, hn⟩
      have h0 : as'.length = 0 := by omega
      have h1 := t2.len
      have h2 : as' = [] := List.length_eq_zero_iff.mp h0
      have h3 : qs = [] := List.length_eq_zero_iff.mp (by omega)
      subst h2 h3
      exact ⟨_, rfl, q l [] H2 s2 nl e2 (by rw [← hst]; exact .nil)⟩
end

/-! ### the law's own polynomials -/
def spL2 (g : Rat → Rat → Rat) : Sp := fun vs H Q _ => ∃ (r1 r2 : Addr) (a b : Rat), vs = [.ref r1, .ref r2] ∧ TR H r1 a ∧ TR H r2 b ∧ Sr a ∧ Sr b ∧ ∀ (r : Addr) (H' : Hp), Same H H' → H r = none → TR H' r (g a b) → Q (.ref r) H'
def rAdd (a b : Rat) : Rat := a + b
def rMul (a b : Rat) : Rat := a * b
/-- every number is small -/
def SrL (a : List Rat) : Prop := ∀ i, Sr (cf a i)
theorem sr_zero : Sr 0 := ⟨by show (0 : Nat) < 2 ^ 4300; exact Nat.pow_pos (by decide), by show 1 < 2 ^ 4300; exact Nat.one_lt_pow (by decide) (by decide)⟩
def spLPP : Sp := fun vs H Q _ => ∃ (l1 l2 : Addr) (a b : List Rat), vs = [.ref l1, .ref l2] ∧ RL H l1 a ∧ RL H l2 b ∧ a.length ≤ 500 ∧ b.length ≤ 500 ∧ SrL a ∧ SrL b ∧ ∀ (l : Addr) (H' : Hp), Same H H' → RL H' l (stripQ (padd a b)) → Q (.ref l) H'
def spLPS : Sp := fun vs H Q _ => ∃ (l1 r : Addr) (a : List Rat) (c : Rat), vs = [.ref l1, .ref r] ∧ RL H l1 a ∧ TR H r c ∧ a.length ≤ 500 ∧ SrL a ∧ Sr c ∧ ∀ (l : Addr) (H' : Hp), Same H H' → RL H' l (stripQ (pscale a c)) → Q (.ref l) H'
def spLPM : Sp := fun vs H Q _ => ∃ (l1 l2 : Addr) (a b : List Rat), vs = [.ref l1, .ref l2] ∧ RL H l1 a ∧ RL H l2 b ∧ a.length ≤ 500 ∧ b.length ≤ 500 ∧ SrL a ∧ SrL b ∧ ∀ (l : Addr) (H' : Hp), Same H H' → RL H' l (stripQ (padd a (stripQ (pscale b (-1))))) → Q (.ref l) H'
theorem stripQ_len (l : List Rat) : (stripQ l).length ≤ l.length := stp_len (stripQ_stp l) (cf_stripQ l)
section
variable {P : Program} {w : World} {K : PySem.W.Frag} {mg : Str → Option Value} {base : Heap} {CN : Addr}
abbrev sLPlus : Stmt := topS 49
abbrev sLTimes : Stmt := topS 51
abbrev sLPPlus : Stmt := topS 60
abbrev sLPScaled : Stmt := topS 61
theorem scLPlus : FnScope ["_law_one", "_law_two"] ["_law_one", "_law_two"] (defScope sLPlus) := ⟨rfl, rfl, rfl, by decide +kernel, rfl, by decide +kernel, by decide +kernel⟩
theorem den_ne (a b : Rat) : ((a.den : Int) * (b.den : Int)) ≠ 0 := by
  have h1 := a.den_nz
  have h2 := b.den_nz
  exact Int.mul_ne_zero (by omega) (by omega)
theorem ok_lplus {f : Addr} {fd : FuncData} (F : Fun K "_law_plus" "_law_plus" sLPlus f fd) (Gq : Df P w K mg base "_law_q" 2 ["_law_top", "_law_bottom"] spQ) : FnOk P w K mg base CX0 3 f fd ["_law_one", "_law_two"] (spL2 rAdd) := by
  refine F.ok scLPlus (fun vs H Q E h => ?_) (fun cdv A outer s H vs Q E hr h => ?_)
  · obtain ⟨r1, r2, a, b, rfl, _⟩ := h
    rfl
  · obtain ⟨r1, r2, a, b, rfl, h1, h2, za, zb, q⟩ := h
    refine ⟨_, (pss_one (ps_ret (pe_call Gq.ok (hr.mono (by decide)) rfl Gq.m Gq.kp Gq.b .nil pass0 (pa_cons (pe_op op_add (pe_op op_mulW (pe_ix ix_tup (pv 0) pe_int (fun _ _ => rfl)) (pe_ix ix_tup (pv 1) pe_int (fun _ _ => rfl))) (pe_op op_mulW (pe_ix ix_tup (pv 1) pe_int (fun _ _ => rfl)) (pe_ix ix_tup (pv 0) pe_int (fun _ _ => rfl)))) (pa_cons (pe_op op_mulW (pe_ix ix_tup (pv 0) pe_int (fun _ _ => rfl)) (pe_ix ix_tup (pv 1) pe_int (fun _ _ => rfl))) pa_nil))))), ?_⟩
    obtain ⟨s1, s2, s3⟩ := sr_sum za zb
    refine ⟨_, rfl, r1, _, _, .int a.num, rfl, rfl, SqT.of h1, at_of (j := 0) rfl rfl, _, rfl, r2, _, _, .int b.den, rfl, rfl, SqT.of h2, at_of (j := 1) rfl rfl, _, _, rfl, rfl, big_mulW za.n zb.d, ?_⟩
    refine ⟨_, rfl, r2, _, _, .int b.num, rfl, rfl, SqT.of h2, at_of (j := 0) rfl rfl, _, rfl, r1, _, _, .int a.den, rfl, rfl, SqT.of h1, at_of (j := 1) rfl rfl, _, _, rfl, rfl, big_mulW zb.n za.d, ?_⟩
    refine ⟨_, _, rfl, rfl, ?_⟩
    refine ⟨_, rfl, r1, _, _, .int a.den, rfl, rfl, SqT.of h1, at_of (j := 1) rfl rfl, _, rfl, r2, _, _, .int b.den, rfl, rfl, SqT.of h2, at_of (j := 1) rfl rfl, _, _, rfl, rfl, big_mulW za.d zb.d, ?_⟩
    refine ⟨_, _, rfl, den_ne a b, s1, s2, fun r H' ss nr er => ?_⟩
    rw [low_add] at er
    exact q r H' ss nr er
theorem scLTimes : FnScope ["_law_one", "_law_two"] ["_law_one", "_law_two"] (defScope sLTimes) := ⟨rfl, rfl, rfl, by decide +kernel, rfl, by decide +kernel, by decide +kernel⟩
theorem ok_ltimes {f : Addr} {fd : FuncData} (F : Fun K "_law_times" "_law_times" sLTimes f fd) (Gq : Df P w K mg base "_law_q" 2 ["_law_top", "_law_bottom"] spQ) : FnOk P w K mg base CX0 3 f fd ["_law_one", "_law_two"] (spL2 rMul) := by
  refine F.ok scLTimes (fun vs H Q E h => ?_) (fun cdv A outer s H vs Q E hr h => ?_)
  · obtain ⟨r1, r2, a, b, rfl, _⟩ := h
    rfl
  · obtain ⟨r1, r2, a, b, rfl, h1, h2, za, zb, q⟩ := h
    refine ⟨_, (pss_one (ps_ret (pe_call Gq.ok (hr.mono (by decide)) rfl Gq.m Gq.kp Gq.b .nil pass0 (pa_cons (pe_op op_mulW (pe_ix ix_tup (pv 0) pe_int (fun _ _ => rfl)) (pe_ix ix_tup (pv 1) pe_int (fun _ _ => rfl))) (pa_cons (pe_op op_mulW (pe_ix ix_tup (pv 0) pe_int (fun _ _ => rfl)) (pe_ix ix_tup (pv 1) pe_int (fun _ _ => rfl))) pa_nil))))), ?_⟩
    obtain ⟨s1, s2, s3⟩ := sr_sum za zb
    refine ⟨_, rfl, r1, _, _, .int a.num, rfl, rfl, SqT.of h1, at_of (j := 0) rfl rfl, _, rfl, r2, _, _, .int b.num, rfl, rfl, SqT.of h2, at_of (j := 0) rfl rfl, _, _, rfl, rfl, big_mulW za.n zb.n, ?_⟩
    refine ⟨_, rfl, r1, _, _, .int a.den, rfl, rfl, SqT.of h1, at_of (j := 1) rfl rfl, _, rfl, r2, _, _, .int b.den, rfl, rfl, SqT.of h2, at_of (j := 1) rfl rfl, _, _, rfl, rfl, big_mulW za.d zb.d, ?_⟩
    refine ⟨_, _, rfl, den_ne a b, s3, s2, fun r H' ss nr er => ?_⟩
    rw [low_times] at er
    exact q r H' ss nr er
/-- the law's stripping, on numbers -/
theorem lpoly_q {K : PySem.W.Frag} {H : Hp} {l : Addr} {qs : List Rat} {Q : VK} (h : RL H l qs) (hl : qs.length ≤ 1000) (k : ∀ (l' : Addr) (H' : Hp), Same H H' → RL H' l' (stripQ qs) → Q (.ref l') H') {E : XK} : spLPoly K [.ref l] H Q E := by
  obtain ⟨as, e, t⟩ := h
  have := t.lenQ
  refine ⟨l, as, qs.map pq, rfl, SqL.of e, t, by omega, fun l' as' H' s n e' t' => k l' H' s ⟨as', e', ?_⟩⟩
  rw [strip_map] at t'
  exact t'
theorem scLPPlus : FnScope ["_law_one", "_law_two", "_law_many", "_law_first", "_law_second", "_law_a", "_law_b"] ["_law_one", "_law_two"] (defScope sLPPlus) := ⟨rfl, rfl, rfl, by decide +kernel, rfl, by decide +kernel, by decide +kernel⟩
theorem ok_lpplus {f : Addr} {fd : FuncData} (F : Fun K "_law_p_plus" "_law_p_plus" sLPPlus f fd) (T : Bk mg) (hmax : mg "max" = none) (hzip : mg "zip" = none) (Gpoly : Df P w K mg base "_law_poly" 1 ["_law_numbers"] (spLPoly K)) (Gplus : Df P w K mg base "_law_plus" 3 ["_law_one", "_law_two"] (spL2 rAdd)) :
    FnOk P w K mg base CX0 4 f fd ["_law_one", "_law_two"] spLPP := by
  refine F.ok scLPPlus (fun vs H Q E h => ?_) (fun cdv A outer s H vs Q E hr h => ?_)
  · obtain ⟨l1, l2, a, b, rfl, _⟩ := h
    rfl
  · obtain ⟨l1, l2, a, b, rfl, ⟨as, e1, t1⟩, ⟨bs, e2, t2⟩, la, lb, za, zb, q⟩ := h
    refine ⟨_, (pss_cons (ps_set (i := 2) scLPPlus.nd rfl (Or.inl rfl) (pe_callB (cr_max rfl) (by rfl) hmax (by decide +kernel) (pa_cons (pe_lst (pa_cons (pe_callB call_len_seq (by rfl) T.len (by decide +kernel) (pa_cons (pv 0) pa_nil)) (pa_cons (pe_callB call_len_seq (by rfl) T.len (by decide +kernel) (pa_cons (pv 1) pa_nil)) pa_nil))) pa_nil)))
  (pss_cons (ps_par (i := 3) (j := 4) (by rfl) scLPPlus.nd rfl rfl (by decide) rfl rfl (pa_cons (pe_op op_cat (pv 0) (pe_op op_rep (pe_lst (pa_cons (pe_tup (pa_cons pe_int (pa_cons pe_int pa_nil))) pa_nil)) (pe_op op_sub (pv 2) (pe_callB call_len_seq (by rfl) T.len (by decide +kernel) (pa_cons (pv 0) pa_nil))))) (pa_cons (pe_op op_cat (pv 1) (pe_op op_rep (pe_lst (pa_cons (pe_tup (pa_cons pe_int (pa_cons pe_int pa_nil))) pa_nil)) (pe_op op_sub (pv 2) (pe_callB call_len_seq (by rfl) T.len (by decide +kernel) (pa_cons (pv 1) pa_nil))))) pa_nil)) (by rfl))
  (pss_one (ps_ret (pe_call Gpoly.ok (hr.mono (by decide)) rfl Gpoly.m Gpoly.kp Gpoly.b .nil pass0 (pa_cons (pe_lc (own := [("_law_a", 5), ("_law_b", 6)]) (g := gTup K 2 (gCons (gName 5) (gCons (gName 6) gNil))) (tt := tYes) rfl scLPPlus.nd (pi_zip (by rfl) hzip (pa_cons (pv 3) (pa_cons (pv 4) pa_nil))) (blkOk_by (N := ["_law_one", "_law_two", "_law_many", "_law_first", "_law_second", "_law_a", "_law_b"]) (sc := defScope sLPPlus) (by decide +kernel)) (fun _ _ _ _ _ => pg_tup rfl (pgs_cons (pg_name (i := 5) scLPPlus.nd rfl (Or.inl rfl)) (pgs_cons (pg_name (i := 6) scLPPlus.nd rfl (Or.inl rfl)) pgs_nil))) (fun _ _ _ _ _ => pts_nil) (fun _ _ _ _ _ => (pe_call Gplus.ok (hr.mono (by decide)) rfl Gplus.m Gplus.kp Gplus.b .nil pass0 (pa_cons (pv 5) (pa_cons (pv 6) pa_nil))))) pa_nil)))))), ?_⟩
    have n1 := t1.lenQ
    have n2 := t2.lenQ
    refine ⟨_, rfl, l1, _, rfl, .inl (SqL.of e1), _, rfl, l2, _, rfl, .inl (SqL.of e2), (by show 2 ≤ sizeLine; decide), fun lm nlm => ?_⟩
    rw [List.length_map, List.length_map, n1, n2]
    have elm : upd H lm (HO.lst [V.int (a.length : Nat), V.int (b.length : Nat)]) lm = some (HO.lst [V.int (a.length : Nat), V.int (b.length : Nat)]) := upd_same
    have s1 : Same H (upd H lm (HO.lst [V.int (a.length : Nat), V.int (b.length : Nat)])) := same_upd nlm
    generalize upd H lm (HO.lst [V.int (a.length : Nat), V.int (b.length : Nat)]) = H1 at elm s1 ⊢
    refine ⟨lm, [(a.length : Nat), (b.length : Nat)], rfl, SqL.of elm, (by show 0 < 2; decide), fun m hm1 hm2 => ?_⟩
    have hm : m = ((max a.length b.length : Nat) : Int) := by
      have h1 := hm2 (a.length : Nat) (by simp)
      have h2 := hm2 (b.length : Nat) (by simp)
      simp only [List.mem_cons, List.not_mem_nil, or_false] at hm1
      omega
    subst hm
    generalize hn : max a.length b.length = n
    have e1' := s1 _ _ e1
    have e2' := s1 _ _ e2
    -- first
    refine ⟨_, rfl, (by show 2 ≤ sizeLine; decide), fun t0 nt0 => ?_⟩
    have et0 : upd H1 t0 (HO.tup [V.int 0, V.int 1]) t0 = some (HO.tup [V.int 0, V.int 1]) := upd_same
    have s2 : Same H1 (upd H1 t0 (HO.tup [V.int 0, V.int 1])) := same_upd nt0
    generalize upd H1 t0 (HO.tup [V.int 0, V.int 1]) = H2 at et0 s2 ⊢
    refine ⟨(by show 1 ≤ sizeLine; decide), fun k1 nk1 => ?_⟩
    have ek1 : upd H2 k1 (HO.lst [V.ref t0]) k1 = some (HO.lst [V.ref t0]) := upd_same
    have s3 : Same H2 (upd H2 k1 (HO.lst [V.ref t0])) := same_upd nk1
    generalize upd H2 k1 (HO.lst [V.ref t0]) = H3 at ek1 s3 ⊢
    have e13 := s3 _ _ (s2 _ _ e1')
    refine ⟨_, rfl, _, rfl, l1, _, rfl, .inl (SqL.of e13), _, _, rfl, rfl, ?_⟩
    rw [List.length_map, n1]
    refine ⟨k1, _, _, rfl, rfl, ek1, by omega, by omega, (by rw [sizeLine_eq]; show 1 * _ ≤ _; omega), fun k2 nk2 => ?_⟩
    have ek2 : upd H3 k2 (HO.lst (List.replicate ((n : Nat) - (a.length : Nat) : Int).toNat [V.ref t0]).flatten) k2 = some (HO.lst ((List.replicate (n - a.length) t0).map V.ref)) := by
      rw [upd_same, flat_repQ, show ((n : Nat) - (a.length : Nat) : Int).toNat = n - a.length by omega]
    have s4 : Same H3 (upd H3 k2 (HO.lst (List.replicate ((n : Nat) - (a.length : Nat) : Int).toNat [V.ref t0]).flatten)) := same_upd nk2
    generalize upd H3 k2 (HO.lst (List.replicate ((n : Nat) - (a.length : Nat) : Int).toNat [V.ref t0]).flatten) = H4 at ek2 s4 ⊢
    refine ⟨l1, k2, _, _, rfl, rfl, s4 _ _ e13, ek2, (by rw [List.length_map, List.length_map, List.length_replicate, sizeLine_eq]; omega), fun f1 nf1 => ?_⟩
    have ef1 : upd H4 f1 (HO.lst (as.map V.ref ++ (List.replicate (n - a.length) t0).map V.ref)) f1 = some (HO.lst ((as ++ List.replicate (n - a.length) t0).map V.ref)) := by rw [upd_same, List.map_append]
    have s5 : Same H4 (upd H4 f1 (HO.lst (as.map V.ref ++ (List.replicate (n - a.length) t0).map V.ref))) := same_upd nf1
    generalize upd H4 f1 (HO.lst (as.map V.ref ++ (List.replicate (n - a.length) t0).map V.ref)) = H5 at ef1 s5 ⊢
    have s15 : Same H1 H5 := s2.trans (s3.trans (s4.trans s5))
    have tf1 : Tups H5 (as ++ List.replicate (n - a.length) t0) ((a ++ List.replicate (n - a.length) 0).map pq) := by
      rw [List.map_append]
      exact ((t1.same s1).same s15).app (tups_rep0 (show TR H5 t0 0 from s5 _ _ (s4 _ _ (s3 _ _ et0))) _)
    -- second
    refine ⟨_, rfl, (by show 2 ≤ sizeLine; decide), fun t0' nt0' => ?_⟩
    have et0' : upd H5 t0' (HO.tup [V.int 0, V.int 1]) t0' = some (HO.tup [V.int 0, V.int 1]) := upd_same
    have s6 : Same H5 (upd H5 t0' (HO.tup [V.int 0, V.int 1])) := same_upd nt0'
    generalize upd H5 t0' (HO.tup [V.int 0, V.int 1]) = H6 at et0' s6 ⊢
    refine ⟨(by show 1 ≤ sizeLine; decide), fun k3 nk3 => ?_⟩
    have ek3 : upd H6 k3 (HO.lst [V.ref t0']) k3 = some (HO.lst [V.ref t0']) := upd_same
    have s7 : Same H6 (upd H6 k3 (HO.lst [V.ref t0'])) := same_upd nk3
    generalize upd H6 k3 (HO.lst [V.ref t0']) = H7 at ek3 s7 ⊢
    have e27 := s7 _ _ (s6 _ _ (s15 _ _ e2'))
    refine ⟨_, rfl, _, rfl, l2, _, rfl, .inl (SqL.of e27), _, _, rfl, rfl, ?_⟩
    rw [List.length_map, n2]
    refine ⟨k3, _, _, rfl, rfl, ek3, by omega, by omega, (by rw [sizeLine_eq]; show 1 * _ ≤ _; omega), fun k4 nk4 => ?_⟩
    have ek4 : upd H7 k4 (HO.lst (List.replicate ((n : Nat) - (b.length : Nat) : Int).toNat [V.ref t0']).flatten) k4 = some (HO.lst ((List.replicate (n - b.length) t0').map V.ref)) := by
      rw [upd_same, flat_repQ, show ((n : Nat) - (b.length : Nat) : Int).toNat = n - b.length by omega]
    have s8 : Same H7 (upd H7 k4 (HO.lst (List.replicate ((n : Nat) - (b.length : Nat) : Int).toNat [V.ref t0']).flatten)) := same_upd nk4
    generalize upd H7 k4 (HO.lst (List.replicate ((n : Nat) - (b.length : Nat) : Int).toNat [V.ref t0']).flatten) = H8 at ek4 s8 ⊢
    refine ⟨l2, k4, _, _, rfl, rfl, s8 _ _ e27, ek4, (by rw [List.length_map, List.length_map, List.length_replicate, sizeLine_eq]; omega), fun f2 nf2 => ?_⟩
    have ef2 : upd H8 f2 (HO.lst (bs.map V.ref ++ (List.replicate (n - b.length) t0').map V.ref)) f2 = some (HO.lst ((bs ++ List.replicate (n - b.length) t0').map V.ref)) := by rw [upd_same, List.map_append]
    have s9 : Same H8 (upd H8 f2 (HO.lst (bs.map V.ref ++ (List.replicate (n - b.length) t0').map V.ref))) := same_upd nf2
    generalize upd H8 f2 (HO.lst (bs.map V.ref ++ (List.replicate (n - b.length) t0').map V.ref)) = H9 at ef2 s9 ⊢
    have s59 : Same H5 H9 := s6.trans (s7.trans (s8.trans s9))
    have tf2 : Tups H9 (bs ++ List.replicate (n - b.length) t0') ((b ++ List.replicate (n - b.length) 0).map pq) := by
      rw [List.map_append]
      exact (((t2.same s1).same s15).same s59).app (tups_rep0 (show TR H9 t0' 0 from s9 _ _ (s8 _ _ (s7 _ _ et0'))) _)
    have ef19 := s59 _ _ ef1
    have tf19 := tf1.same s59
    generalize as ++ List.replicate (n - a.length) t0 = xs at ef19 tf19 ef1 tf1
    generalize bs ++ List.replicate (n - b.length) t0' = ys at ef2 tf2
    have lx : xs.length = n := by
      have := tf19.lenQ
      rw [List.length_append, List.length_replicate] at this
      omega
    have ly : ys.length = n := by
      have := tf2.lenQ
      rw [List.length_append, List.length_replicate] at this
      omega
    have pad : ∀ (c : List Rat) (m i : Nat), cf (c ++ List.replicate m 0) i = cf c i := fun c m i => by
      rw [cf_app]
      split
      · rfl
      · rw [cf_rep0, cf_ge (by omega)]
    refine ⟨_, _, rfl, _, rfl, _, rfl, f1, f2, _, _, rfl, SqL.of ef19, SqL.of ef2, fun D hD => lc_zipL (K := K) (a := f1) (b := f2) (xs := xs.map V.ref) (ys := ys.map V.ref) (by rw [List.length_map, List.length_map, lx, ly]) (fun i H' => Same H9 H' ∧ ∃ zs, H' D = some (.lst (zs.map V.ref)) ∧ Tups H' zs ((tab i fun i => cf a i + cf b i).map pq)) ?_ ?_ ?_ ?_⟩
    · exact ⟨same_upd hD, [], upd_same, .nil⟩
    · rintro i H' ⟨ss, _⟩
      exact ⟨same_sqL ss (SqL.of ef19), same_sqL ss (SqL.of ef2)⟩
    · intro i x y T H' hx hy ⟨ss, zs, eD, tz⟩ nT
      rw [List.getElem?_map] at hx hy
      cases hx0 : xs[i]? with
      | none => rw [hx0] at hx; cases hx
      | some r1 =>
        cases hy0 : ys[i]? with
        | none => rw [hy0] at hy; cases hy
        | some r2 =>
          rw [hx0] at hx
          rw [hy0] at hy
          cases hx
          cases hy
          obtain ⟨q1, h1, g1⟩ := tf19.atQ hx0
          obtain ⟨q2, h2, g2⟩ := tf2.atQ hy0
          have c1 : q1 = cf a i := by rw [← cf_get h1, pad]
          have c2 : q2 = cf b i := by rw [← cf_get h2, pad]
          have sT : Same H' (upd H' T (.tup [V.ref r1, V.ref r2])) := same_upd nT
          refine ⟨T, _, rfl, SqT.of upd_same, rfl, _, _, rfl, _, _, rfl, rfl, rfl, ?_⟩
          refine ⟨_, rfl, _, rfl, r1, r2, q1, q2, rfl, (g1.same ss).same sT, (g2.same ss).same sT, (by rw [c1]; exact za i), (by rw [c2]; exact zb i), fun r H'' s' nr er => ?_⟩
          have eD' := s' _ _ (sT _ _ eD)
          have DT : D ≠ T := ne_of_none eD nT
          refine ⟨_, eD', ?_, (fun b' o' e' => ?_), zs ++ [r], ?_, ?_⟩
          · have := tz.lenQ
            rw [tab_len] at this
            have : i < n := by
              have := (List.getElem?_eq_some_iff.mp hx0).1
              omega
            rw [List.length_map, sizeLine_eq]
            omega
          · rw [upd_ne (ne_of_none e' hD)]
            exact s' _ _ (sT _ _ (ss _ _ e'))
          · rw [upd_same, List.map_append]
            rfl
          · rw [tab_snoc]
            have up : ∀ (c : Addr) (p : Int × Int), H'' c = some (.tup [.int p.1, .int p.2]) → upd H'' D (.lst (zs.map V.ref ++ [V.ref r])) c = some (.tup [.int p.1, .int p.2]) := fun c p z => by
              rw [upd_ne (ne_of z eD' (by intro z; cases z))]
              exact z
            refine Tups.snocQ ((((tz.same sT).same s')).imp up) ?_
            rw [c1, c2] at er
            exact up _ (pq (cf a i + cf b i)) er
    · rintro H' ⟨ss, zs, eD, tz⟩
      have e : tab (xs.map V.ref).length (fun i => cf a i + cf b i) = padd a b := by
        rw [List.length_map, lx, ← hn]
        rfl
      rw [e] at tz
      have s19 : Same H H' := s1.trans (s15.trans (s59.trans ss))
      refine lpoly_q (E := E0) ⟨zs, eD, tz⟩ (by unfold padd; rw [tab_len]; omega) fun l' H'' s' r => q l' H'' (s19.trans s') r
theorem scLPScaled : FnScope ["_law_one", "_law_by", "_law_a"] ["_law_one", "_law_by"] (defScope sLPScaled) := ⟨rfl, rfl, rfl, by decide +kernel, rfl, by decide +kernel, by decide +kernel⟩
theorem ok_lpscaled {f : Addr} {fd : FuncData} (F : Fun K "_law_p_scaled" "_law_p_scaled" sLPScaled f fd) (Gpoly : Df P w K mg base "_law_poly" 1 ["_law_numbers"] (spLPoly K)) (Gtimes : Df P w K mg base "_law_times" 3 ["_law_one", "_law_two"] (spL2 rMul)) :
    FnOk P w K mg base CX0 4 f fd ["_law_one", "_law_by"] spLPS := by
  refine F.ok scLPScaled (fun vs H Q E h => ?_) (fun cdv A outer s H vs Q E hr h => ?_)
  · obtain ⟨l1, r, a, c, rfl, _⟩ := h
    rfl
  · obtain ⟨l1, r, a, c, rfl, ⟨as, e1, t1⟩, hr2, la, za, zc, q⟩ := h
    refine ⟨_, (pss_one (ps_ret (pe_call Gpoly.ok (hr.mono (by decide)) rfl Gpoly.m Gpoly.kp Gpoly.b .nil pass0 (pa_cons (pe_lc (own := [("_law_a", 2)]) (g := gName 2) (tt := tYes) rfl scLPScaled.nd (pi_seq (pv 0)) (blkOk_by (N := ["_law_one", "_law_by", "_law_a"]) (sc := defScope sLPScaled) (by decide +kernel)) (fun _ _ _ _ _ => pg_name (i := 2) scLPScaled.nd rfl (Or.inl rfl)) (fun _ _ _ _ _ => pts_nil) (fun _ _ _ _ _ => (pe_call Gtimes.ok (hr.mono (by decide)) rfl Gtimes.m Gtimes.kp Gtimes.b .nil pass0 (pa_cons (pv 2) (pa_cons (pv 1) pa_nil))))) pa_nil)))), ?_⟩
    have n1 := t1.lenQ
    refine ⟨_, rfl, l1, rfl, lc_seq (xs := as.map V.ref) (.inl (SqL.of e1)) (fun D i H' => Same H H' ∧ ∃ zs, H' D = some (.lst (zs.map V.ref)) ∧ Tups H' zs ((tab i fun i => cf a i * c).map pq)) ?_ ?_ ?_ ?_⟩
    · intro D hD
      exact ⟨same_upd hD, [], upd_same, .nil⟩
    · intro D i H' hD ⟨ss, _⟩
      exact ⟨same_sqL ss, same_sqT ss⟩
    · intro D i x H' hD hx ⟨ss, zs, eD, tz⟩
      rw [List.getElem?_map] at hx
      cases hx0 : as[i]? with
      | none => rw [hx0] at hx; cases hx
      | some r1 =>
        rw [hx0] at hx
        cases hx
        obtain ⟨q1, h1, g1⟩ := t1.atQ hx0
        have c1 : q1 = cf a i := (cf_get h1).symm
        refine ⟨rfl, ?_⟩
        refine ⟨_, rfl, _, rfl, r1, r, q1, c, rfl, g1.same ss, hr2.same ss, (by rw [c1]; exact za i), zc, fun r' H'' s' nr er => ?_⟩
        have eD' := s' _ _ eD
        refine ⟨_, eD', ?_, (fun b' o' e' => ?_), zs ++ [r'], ?_, ?_⟩
        · have := tz.lenQ
          rw [tab_len] at this
          have := (List.getElem?_eq_some_iff.mp hx0).1
          rw [List.length_map, sizeLine_eq]
          omega
        · rw [upd_ne (ne_of_none e' hD)]
          exact s' _ _ (ss _ _ e')
        · rw [upd_same, List.map_append]
          rfl
        · rw [tab_snoc]
          have up : ∀ (c : Addr) (p : Int × Int), H'' c = some (.tup [.int p.1, .int p.2]) → upd H'' D (.lst (zs.map V.ref ++ [V.ref r'])) c = some (.tup [.int p.1, .int p.2]) := fun c p z => by
            rw [upd_ne (ne_of z eD' (by intro z; cases z))]
            exact z
          refine Tups.snocQ ((tz.same s').imp up) ?_
          rw [c1] at er
          exact up _ (pq (cf a i * c)) er
    · intro D H' hD ⟨ss, zs, eD, tz⟩
      have e : tab (as.map V.ref).length (fun i => cf a i * c) = pscale a c := by
        rw [List.length_map, n1]
        refine List.ext_getElem (by rw [tab_len]; unfold pscale; rw [List.length_map]) fun i h1 h2 => ?_
        rw [← cf_lt h1, ← cf_lt h2, cf_tab, if_pos (by rw [tab_len] at h1; exact h1)]
        unfold pscale
        rw [cf_map (f := fun x => x * c) (Rat.zero_mul c)]
      rw [e] at tz
      refine lpoly_q (E := E0) ⟨zs, eD, tz⟩ (by unfold pscale; rw [List.length_map]; omega) fun l' H'' s' r => q l' H'' (ss.trans s') r
theorem cf_pscale (a : List Rat) (c : Rat) (i : Nat) : cf (pscale a c) i = cf a i * c := by
  unfold pscale
  exact cf_map (f := fun x => x * c) (Rat.zero_mul c) a i
theorem sr_neg {q : Rat} (h : Sr q) : Sr (q * -1) := by
  have e : q * -1 = -q := by grind
  rw [e]
  exact ⟨by rw [Rat.neg_num, Int.natAbs_neg]; exact h.1, by rw [Rat.neg_den]; exact h.2⟩
end

end Vf

set_option maxRecDepth 100000
set_option maxHeartbeats 8000000
namespace Vf
open PySem PySem.Spec PyProof.Rows L2
/-- the value by Horner's steps -/
def hor (x : Rat) : List Rat → Rat
  | [] => 0
  | c :: l => hor x l * x + c
theorem hor_step {x : Rat} {a : List Rat} {j : Nat} (h : j < a.length) : hor x (a.drop (a.length - (j + 1))) = hor x (a.drop (a.length - j)) * x + cf a (a.length - 1 - j) := by
  have h1 : a.length - (j + 1) < a.length := by omega
  rw [List.drop_eq_getElem_cons h1]
  show hor x (a.drop (a.length - (j + 1) + 1)) * x + _ = _
  rw [show a.length - (j + 1) + 1 = a.length - j by omega, cf_lt (show a.length - 1 - j < a.length by omega)]
  congr 2
  omega
theorem rev_at {a : List Rat} {j : Nat} {as : List Addr} {r : Addr} (hl : as.length = a.length) (h : (as.map V.ref).reverse[j]? = some (V.ref r)) : as[a.length - 1 - j]? = some r ∧ j < a.length := by
  have hj : j < a.length := by
    have := (List.getElem?_eq_some_iff.mp h).1
    rw [List.length_reverse, List.length_map] at this
    omega
  rw [List.getElem?_reverse (by rw [List.length_map]; omega), List.length_map, List.getElem?_map, hl] at h
  refine ⟨?_, hj⟩
  cases e : as[a.length - 1 - j]? with
  | none => rw [e] at h; cases h
  | some r' =>
    rw [e] at h
    cases h
    rfl
theorem fr_hor {M N B L W j : Nat} {y x c : Rat} (hB : B ≤ W) (hL : L ≤ W) (hy : Fr (M * B ^ j) (N * (j * W ^ j)) y) (hx : Fr B L x) (hc : Fr M N c) : Fr (M * B ^ (j + 1)) (N * ((j + 1) * W ^ (j + 1))) (y * x + c) := by
  have h1 := hy.mul hx
  have h2 := hc.scale (B ^ (j + 1))
  rw [Nat.mul_assoc, ← Nat.pow_succ] at h1
  refine (h1.add h2).le ?_
  have e1 : N * (j * W ^ j) * L ≤ N * (j * W ^ (j + 1)) := by
    rw [Nat.mul_assoc, Nat.mul_assoc, Nat.pow_succ]
    exact Nat.mul_le_mul_left _ (Nat.mul_le_mul_left _ (Nat.mul_le_mul_left _ hL))
  have e2 : N * B ^ (j + 1) ≤ N * W ^ (j + 1) := Nat.mul_le_mul_left _ (Nat.pow_le_pow_left hB _)
  have e3 : N * ((j + 1) * W ^ (j + 1)) = N * (j * W ^ (j + 1)) + N * W ^ (j + 1) := by rw [Nat.succ_mul, Nat.mul_add]
  omega
def spLPA : Sp := fun vs H Q _ => ∃ (l1 r : Addr) (a : List Rat) (x : Rat) (M N B L W : Nat), vs = [.ref l1, .ref r] ∧ RL H l1 a ∧ TR H r x ∧ (∀ i, Fr M N (cf a i)) ∧ Fr B L x ∧ 0 < M ∧ 0 < B ∧ B ≤ W ∧ L ≤ W ∧
  M * W ^ (a.length + 1) < 2 ^ 4300 ∧ N * ((a.length + 1) * W ^ (a.length + 1)) < 2 ^ 4300 ∧ L < 2 ^ 4300 ∧ ∀ (r' : Addr) (H' : Hp), Same H H' → TR H' r' (hor x a) → Q (.ref r') H'
def pslope (a : List Rat) : List Rat := tab (a.length - 1) fun j => cf a (j + 1) * ((j + 1 : Nat) : Rat)
def spLPSl : Sp := fun vs H Q _ => ∃ (l1 : Addr) (a : List Rat), vs = [.ref l1] ∧ RL H l1 a ∧ a.length ≤ 500 ∧ SrL a ∧ ∀ (l : Addr) (H' : Hp), Same H H' → RL H' l (stripQ (pslope a)) → Q (.ref l) H'
/-- the law's moving, step by step -/
def mvl (s t : Rat) : List Rat → List Rat
  | [] => []
  | c :: l => stripQ (padd (stripQ (pmul (mvl s t l) (stripQ [s, t]))) (stripQ [c]))
theorem mvl_len (s t : Rat) : ∀ a : List Rat, (mvl s t a).length ≤ a.length
  | [] => Nat.le_refl _
  | c :: l => by
    have ih := mvl_len s t l
    show (stripQ _).length ≤ _
    have h1 := stripQ_len (padd (stripQ (pmul (mvl s t l) (stripQ [s, t]))) (stripQ [c]))
    have h2 := stripQ_len (pmul (mvl s t l) (stripQ [s, t]))
    have h3 := stripQ_len [s, t]
    have h4 := stripQ_len [c]
    have e1 : (padd (stripQ (pmul (mvl s t l) (stripQ [s, t]))) (stripQ [c])).length = max (stripQ (pmul (mvl s t l) (stripQ [s, t]))).length (stripQ [c]).length := by unfold padd; rw [tab_len]
    have e2 : (pmul (mvl s t l) (stripQ [s, t])).length = (mvl s t l).length + (stripQ [s, t]).length - 1 := by unfold pmul; rw [tab_len]
    simp only [List.length_cons, List.length_nil] at *
    omega
theorem pc_line {a b : List Rat} (hb : ∀ k, 2 ≤ k → cf b k = 0) : ∀ i, pc a b i = cf a i * cf b 0 + if i = 0 then 0 else cf a (i - 1) * cf b 1
  | 0 => by
    unfold pc
    show sm (fun x => cf a x * cf b (0 - x)) 0 + cf a 0 * cf b (0 - 0) = _
    rw [if_pos rfl, Rat.add_zero]
    show (0 : Rat) + _ = _
    rw [Rat.zero_add]
  | k + 1 => by
    unfold pc
    show sm (fun x => cf a x * cf b (k + 1 - x)) k + cf a k * cf b (k + 1 - k) + cf a (k + 1) * cf b (k + 1 - (k + 1)) = _
    rw [sm_zero fun x hx => by rw [hb _ (by omega), Rat.mul_zero], if_neg (by omega), show k + 1 - k = 1 by omega, Nat.sub_self, Nat.add_sub_cancel, Rat.zero_add, Rat.add_comm]
theorem cf_pair (s t : Rat) (k : Nat) : cf (stripQ [s, t]) k = if k = 0 then s else if k = 1 then t else 0 := by
  rw [cf_stripQ]
  match k with
  | 0 => rfl
  | 1 => rfl
  | k + 2 => rw [if_neg (by omega), if_neg (by omega), cf_ge (by simp)]
theorem cf_one (c : Rat) (k : Nat) : cf (stripQ [c]) k = if k = 0 then c else 0 := by
  rw [cf_stripQ]
  match k with
  | 0 => rfl
  | k + 1 => rw [if_neg (by omega), cf_ge (by simp)]
theorem cf_mvl (s t c : Rat) (l : List Rat) (i : Nat) : cf (mvl s t (c :: l)) i = cf (mvl s t l) i * s + (if i = 0 then 0 else cf (mvl s t l) (i - 1) * t) + if i = 0 then c else 0 := by
  show cf (stripQ _) i = _
  rw [cf_stripQ, cf_padd, cf_stripQ, cf_pmul, pc_line (fun k hk => by rw [cf_pair, if_neg (by omega), if_neg (by omega)]), cf_pair, cf_pair, cf_one, if_pos rfl]
  rfl
theorem fr_mvl {M N B L W : Nat} {s t : Rat} (hB : B ≤ W) (hL : 2 * L ≤ W) (hs : Fr B L s) (ht : Fr B L t) : ∀ {a : List Rat}, (∀ x ∈ a, Fr M N x) → ∀ i, Fr (M * B ^ a.length) (N * (a.length * W ^ a.length)) (cf (mvl s t a) i)
  | [], _, i => Fr.zero _ _
  | c :: l, h, i => by
    have ih := fr_mvl hB hL hs ht (a := l) fun x hx => h x (List.mem_cons_of_mem _ hx)
    have hc := h c (List.mem_cons_self ..)
    rw [cf_mvl]
    show Fr (M * B ^ (l.length + 1)) (N * ((l.length + 1) * W ^ (l.length + 1))) _
    have h1 := (ih i).mul hs
    have h2 : Fr (M * B ^ l.length * B) (N * (l.length * W ^ l.length) * L) (if i = 0 then 0 else cf (mvl s t l) (i - 1) * t) := by
      split
      · exact Fr.zero _ _
      · exact (ih (i - 1)).mul ht
    have h3 : Fr (M * B ^ (l.length + 1)) (N * B ^ (l.length + 1)) (if i = 0 then c else 0) := by
      split
      · exact hc.scale _
      · exact Fr.zero _ _
    rw [Nat.mul_assoc, ← Nat.pow_succ] at h1 h2
    refine ((h1.add h2).add h3).le ?_
    have e1 : N * (l.length * W ^ l.length) * L + N * (l.length * W ^ l.length) * L ≤ N * (l.length * W ^ (l.length + 1)) := by
      have e : N * (l.length * W ^ l.length) * L + N * (l.length * W ^ l.length) * L = N * (l.length * W ^ l.length) * (2 * L) := by rw [← Nat.mul_add, Nat.two_mul]
      rw [e, Nat.mul_assoc, Nat.mul_assoc, Nat.pow_succ]
      exact Nat.mul_le_mul_left _ (Nat.mul_le_mul_left _ (Nat.mul_le_mul_left _ hL))
    have e2 : N * B ^ (l.length + 1) ≤ N * W ^ (l.length + 1) := Nat.mul_le_mul_left _ (Nat.pow_le_pow_left hB _)
    have e3 : N * ((l.length + 1) * W ^ (l.length + 1)) = N * (l.length * W ^ (l.length + 1)) + N * W ^ (l.length + 1) := by rw [Nat.succ_mul, Nat.mul_add]
    omega
def spLPMv : Sp := fun vs H Q _ => ∃ (l1 r1 r2 : Addr) (a : List Rat) (s t : Rat) (M N B L W : Nat), vs = [.ref l1, .ref r1, .ref r2] ∧ RL H l1 a ∧ TR H r1 s ∧ TR H r2 t ∧ a.length ≤ 30 ∧ (∀ i, Fr M N (cf a i)) ∧ Fr B L s ∧ Fr B L t ∧ 0 < M ∧ 0 < N ∧ 0 < B ∧ 0 < L ∧ B ≤ W ∧ 2 * L ≤ W ∧
  M * W ^ (a.length + 1) < 2 ^ 1800 ∧ N * ((a.length + 1) * W ^ (a.length + 1)) < 2 ^ 1800 ∧ ∀ (l : Addr) (H' : Hp), Same H H' → RL H' l (mvl s t a) → Q (.ref l) H'
section
variable {P : Program} {w : World} {K : PySem.W.Frag} {mg : Str → Option Value} {base : Heap} {CN : Addr}
theorem pow_le_W {B W j n : Nat} (hB : B ≤ W) (h0 : 0 < B) (hj : j ≤ n) : B ^ j ≤ W ^ n := Nat.le_trans (Nat.pow_le_pow_left hB j) (Nat.pow_le_pow_right (by omega) hj)
theorem sr_nat {k : Nat} (h : k ≤ 1000) : Sr ((k : Nat) : Rat) := ⟨by rw [Rat.num_natCast, Int.natAbs_natCast]; exact Nat.lt_of_le_of_lt h (Nat.lt_of_lt_of_le (show 1000 < 2 ^ 10 by decide) (Nat.pow_le_pow_right (by decide) (by decide))), by rw [Rat.den_natCast]; exact Nat.one_lt_pow (by decide) (by decide)⟩
end

end Vf

set_option maxRecDepth 100000
set_option maxHeartbeats 8000000
namespace Vf
open PySem PySem.Spec PyProof.Rows L2
/-! ### the class of polynomials -/
/-- the class, as the written part tells it -/
structure PoC (K : PySem.W.Frag) (mg : Str → Option Value) (CP : Addr) : Prop where
  m : mg "Poly" = some (.ref CP)
  cl : Cls K CP
  nf : NoAttr K CP "numbers"
  ca : PySem.W.findIn K (.ref CP) "__class__" = some (some (.builtin "object.__class__"))
  cn : PySem.W.specialIn K (.builtin "object.__class__") "__get__" = some (some (.builtin "getset_descriptor.__get__"))
  ct : PySem.W.takesIn K (.builtin "object.__class__") = some true
  cm : PySem.W.mroIn K CP (.type "object") = some true
  no : ∀ d : PyData, PySem.W.kitOne K (.type (tyD d)) (.ref CP) = some false
  fs : PySem.W.notFirst K CP (.ref CP) = true
  fd : ∀ d : PyData, PySem.W.notFirst K CP (.type (tyD d)) = true
theorem PoC.io {K : PySem.W.Frag} {mg : Str → Option Value} {CP : Addr} (_ : PoC K mg CP) : PySem.W.kitOne K (.ref CP) (.ref CP) = some true := by
  unfold PySem.W.kitOne
  rw [if_pos (by simp)]
/-- a polynomial with these numbers stands at a -/
def PolyAt (K : PySem.W.Frag) (CP : Addr) (H : Hp) (a : Addr) (rs : List (Int × Int)) : Prop := ∃ dx q as, H a = some (.ins CP dx [("numbers", .ref q)]) ∧ H q = some (.tup (as.map V.ref)) ∧ Tups H as rs
theorem PolyAt.imp {K : PySem.W.Frag} {CP : Addr} {H H' : Hp} {a : Addr} {rs : List (Int × Int)} (h : PolyAt K CP H a rs) (e : ∀ b o, H b = some o → ((∃ fs dx, o = .ins CP dx fs) ∨ ∃ xs, o = .tup xs) → H' b = some o) : PolyAt K CP H' a rs := by
  obtain ⟨dx, q, as, h1, h2, h3⟩ := h
  exact ⟨dx, q, as, e _ _ h1 (.inl ⟨_, _, rfl⟩), e _ _ h2 (.inr ⟨_, rfl⟩), h3.imp fun a p z => e _ _ z (.inr ⟨_, rfl⟩)⟩
theorem PolyAt.same {K : PySem.W.Frag} {CP : Addr} {H H' : Hp} {a : Addr} {rs : List (Int × Int)} (h : PolyAt K CP H a rs) (s : Same H H') : PolyAt K CP H' a rs := h.imp fun b o e _ => s b o e
theorem PolyAt.n {K : PySem.W.Frag} {CP : Addr} {H H' : Hp} {a : Addr} {rs : List (Int × Int)} (h : PolyAt K CP H a rs) (s : LamX.ExtN H H') : PolyAt K CP H' a rs := h.imp fun b o e t => s b o e (fun ps z => by
  rcases t with ⟨_, _, t⟩ | ⟨_, t⟩ <;> rw [t] at z <;> cases z)
theorem PolyAt.kp {K : PySem.W.Frag} {CP : Addr} {H H' : Hp} {a p l : Addr} {B : Int} {rs : List (Int × Int)} (h : PolyAt K CP H a rs) (hP : Pen H p l B) (s : Kp p H H') : PolyAt K CP H' a rs := by
  obtain ⟨ns, a0, d0, c0, f0, g1, _⟩ := hP
  refine h.imp fun b o e t => s b o (fun z => ?_) e
  rw [z, g1.1] at e
  cases e
  rcases t with ⟨_, _, t⟩ | ⟨_, t⟩ <;> cases t
theorem PolyAt.ty {K : PySem.W.Frag} {mg : Str → Option Value} {CP : Addr} {H : Hp} {a : Addr} {rs : List (Int × Int)} (C : PoC K mg CP) (h : PolyAt K CP H a rs) : TyX K H (.ref a) (.ref CP) := by
  obtain ⟨dx, q, as, h1, _⟩ := h
  exact .base (.ins h1 C.cl C.ca C.cn C.ct C.cm)
/-- a row of ratios, as data -/
def rowD : PyData → Option (List (Int × Int))
  | .list ds => ds.mapM partsD
  | .tuple ds => ds.mapM partsD
  | _ => none
theorem rowD_seq {d : PyData} {ds : List PyData} (h : seqD d = some ds) : rowD d = ds.mapM partsD := by
  cases d <;> first | (cases h; rfl) | cases h
theorem rowD_none {d : PyData} (h : seqD d = none) : rowD d = none := by
  cases d <;> first | rfl | cases h
theorem mapM_some : ∀ {ds : List PyData} {ps : List (Int × Int)}, ds.mapM partsD = some ps → ds.length = ps.length ∧ ∀ (i : Nat) (d : PyData), ds[i]? = some d → ∃ p, ps[i]? = some p ∧ partsD d = some p
  | [], ps, h => by
    rw [List.mapM_nil] at h
    cases h
    exact ⟨rfl, fun i d e => by simp at e⟩
  | d0 :: ds, ps, h => by
    rw [List.mapM_cons] at h
    cases e0 : partsD d0 with
    | none => rw [e0] at h; cases h
    | some p0 =>
      rw [e0] at h
      cases e1 : ds.mapM partsD with
      | none => rw [e1] at h; cases h
      | some ps1 =>
        rw [e1] at h
        cases h
        obtain ⟨h1, h2⟩ := mapM_some e1
        refine ⟨by simp [h1], fun i d e => ?_⟩
        cases i with
        | zero =>
          simp at e
          subst e
          exact ⟨p0, rfl, e0⟩
        | succ i => simpa using h2 i d (by simpa using e)
theorem mapM_all : ∀ ds : List PyData, (ds.map fun d => (partsD d).isSome).all id = (ds.mapM partsD).isSome
  | [] => by rw [List.mapM_nil]; rfl
  | d :: ds => by
    rw [List.mapM_cons, List.map_cons, List.all_cons, mapM_all ds]
    cases partsD d with
    | none => rfl
    | some p =>
      cases ds.mapM partsD <;> rfl
def spIsRow (K : PySem.W.Frag) : Sp := fun vs H Q _ => ∃ (v : V) (d : PyData), vs = [v] ∧ Dt K H v d ∧ (∀ ds, seqD d = some ds → ds.length ≤ 1000) ∧ ∀ H', Same H H' → Q (.bl (rowD d).isSome) H'
/-- an error of BadRow -/
def RaisesR (CR : Addr) (H : Hp) (v : V) (E : XK) : Prop := ∀ (d : Addr) (H' : Hp), Same H H' → H d = none → H' d = some (.xd (fl ["row"] [v])) → E (.ref CR) (some d) H'
theorem RaisesR.same {CR : Addr} {H H1 : Hp} {v : V} {E : XK} (s : Same H H1) (h : RaisesR CR H v E) : RaisesR CR H1 v E := fun d H' s' n e => h d H' (s.trans s') (s.free n) e
/-- the numbers of a row, in lowest terms -/
def lowP (p : Int × Int) : Int × Int := low p.1 p.2
/-- a Poly is made of a value -/
def spPolyI (K : PySem.W.Frag) (CP CR : Addr) : Sp := fun vs H Q E => ∃ (x dx : Addr) (v : V) (d : PyData), vs = [.ref x, v] ∧ H x = some (.ins CP dx []) ∧ Dt K H v d ∧ (∀ ds, seqD d = some ds → ds.length ≤ 1000) ∧
  (∀ ps, rowD d = some ps → (∀ p ∈ ps, p.2.natAbs < 2 ^ big) ∧ ∀ H', Kp x H H' → PolyAt K CP H' x (strip (ps.map lowP)) → Q .non H') ∧ (rowD d = none → RaisesR CR H v E)
/-- what the call Poly(v) comes to -/
theorem poly_made {K : PySem.W.Frag} {CP CR : Addr} {H : Hp} {v : V} {d : PyData} {Qd : Addr → Hp → Prop} {E : XK} (hd : Dt K H v d) (hl : ∀ ds, seqD d = some ds → ds.length ≤ 1000)
    (k : ∀ ps, rowD d = some ps → (∀ p ∈ ps, p.2.natAbs < 2 ^ big) ∧ ∀ (x : Addr) (H' : Hp), Same H H' → H x = none → PolyAt K CP H' x (strip (ps.map lowP)) → Qd x H') (r : rowD d = none → RaisesR CR H v E) :
    ∀ x dx, H x = none → H dx = none → dx ≠ x → spPolyI K CP CR (.ref x :: ([v] ++ [])) (upd (upd H dx (.own x)) x (.ins CP dx [])) (fun w H2 => w = .non ∧ Qd x H2) E := by
  intro x dx nx nd ne
  have s1 : Same H (upd (upd H dx (.own x)) x (.ins CP dx [])) := (same_upd nd).trans (same_upd (by rw [upd_ne (Ne.symm ne)]; exact nx))
  refine ⟨x, dx, v, d, rfl, upd_same, hd.mono s1, hl, fun ps hp => ?_, fun hn => (r hn).same s1⟩
  obtain ⟨k1, k2⟩ := k ps hp
  refine ⟨k1, fun H' kp hP => ⟨rfl, k2 x H' (fun b o e => kp b o (ne_of_none e nx) (s1 _ _ e)) nx hP⟩⟩
section
variable {P : Program} {w : World} {K : PySem.W.Frag} {mg : Str → Option Value} {base : Heap} {CP CR CN : Addr}
abbrev sIsRow : Stmt := topS 12
abbrev sPolyI : Stmt := inClass (topS 25) 0
abbrev sPolyE : Stmt := inClass (topS 25) 1
abbrev sPolyD : Stmt := inClass (topS 25) 9
theorem scIsRow : FnScope ["value", "item"] ["value"] (defScope sIsRow) := ⟨rfl, rfl, rfl, by decide +kernel, rfl, by decide +kernel, by decide +kernel⟩
theorem map_take_snoc {α β : Type} {l : List α} {f : α → β} {i : Nat} {x : α} (h : l[i]? = some x) : (l.take i).map f ++ [f x] = (l.take (i + 1)).map f := by
  rw [List.take_succ, h, List.map_append]
  rfl
theorem ok_is_row {f : Addr} {fd : FuncData} (F : Fun K "is_ratio_row" "is_ratio_row" sIsRow f fd) (T : Bk mg) (hall : mg "all" = none) (Gr : Df P w K mg base "is_ratio" 2 ["value"] (spIsRatio K)) : FnOk P w K mg base CX0 3 f fd ["value"] (spIsRow K) := by
  refine F.ok scIsRow (fun vs H Q E h => ?_) (fun cdv A outer s H vs Q E hr h => ?_)
  · obtain ⟨v, d, rfl, _⟩ := h
    rfl
  · obtain ⟨v, d, rfl, hd, hlen, q⟩ := h
    refine ⟨_, (pss_one (ps_ret (pe_and (pe_callB call_isiT (by rfl) T.isinstance (by decide +kernel) (pa_cons (pv 0) (pa_cons (pe_tup (pa_cons (pe_bltn (v := V.ty "tuple") (by rfl) T.tuple (by decide +kernel) rfl) (pa_cons (pe_bltn (v := V.ty "list") (by rfl) T.list (by decide +kernel) rfl) pa_nil))) pa_nil)))
      (pe_one (pe_callB (cr_all rfl) (by rfl) hall (by decide +kernel) (pa_cons (pe_lc (own := [("item", 1)]) (g := gName 1) (tt := tYes) rfl scIsRow.nd (pi_seq (pv 0)) (blkOk_by (N := ["value", "item"]) (sc := defScope sIsRow) (by decide +kernel)) (fun _ _ _ _ _ => pg_name (i := 1) scIsRow.nd rfl (Or.inl rfl)) (fun _ _ _ _ _ => pts_nil)
        (fun _ _ _ _ _ => pe_call Gr.ok hr rfl Gr.m Gr.kp Gr.b .nil pass0 (pa_cons (pv 1) pa_nil))) pa_nil)))))), ?_⟩
    refine ⟨_, rfl, (by show 2 ≤ sizeLine; decide), fun tp ntp => ?_⟩
    have s1 : Same H (upd H tp (HO.tup [V.ty "tuple", V.ty "list"])) := same_upd ntp
    have e1 : upd H tp (HO.tup [V.ty "tuple", V.ty "list"]) tp = some (HO.tup [V.ty "tuple", V.ty "list"]) := upd_same
    generalize upd H tp (HO.tup [V.ty "tuple", V.ty "list"]) = H1 at s1 e1 ⊢
    have hd1 := hd.mono s1
    refine ⟨v, tp, _, _, [.type "tuple", .type "list"], _, rfl, e1, .cons (.ty _) (.cons (.ty _) .nil), hd1.ty, kit_seq d, _, rfl, ?_⟩
    cases hs : seqD d with
    | none =>
      refine iteF ?_
      have z := q H1 s1
      rw [rowD_none hs] at z
      exact z
    | some ds =>
      refine iteT ?_
      obtain ⟨a, xs, rfl, hsq, hds⟩ := hd1.seq hs
      have hl := hds.len
      have hl2 := hlen ds hs
      refine ⟨_, rfl, a, rfl, lc_seq (xs := xs) hsq (fun D i H2 => Same H1 H2 ∧ H2 D = some (.lst ((ds.take i).map fun d => V.bl (partsD d).isSome))) ?_ ?_ ?_ ?_⟩
      · intro D hD
        exact ⟨same_upd hD, upd_same⟩
      · intro D i H2 hD ⟨s2, _⟩
        exact ⟨same_sqL s2, same_sqT s2⟩
      · intro D i x H2 hD hi ⟨s2, e2⟩
        obtain ⟨di, h1, h2⟩ := hds.at hi
        refine ⟨rfl, ?_⟩
        refine ⟨_, rfl, x, di, rfl, h2.mono s2, fun H3 s3 => ?_⟩
        refine ⟨_, s3 _ _ e2, ?_, (fun b o e => ?_), ?_⟩
        · rw [List.length_map, List.length_take, sizeLine_eq]
          omega
        · rw [upd_ne (ne_of_none e hD)]
          exact s3 _ _ (s2 _ _ e)
        · rw [upd_same, map_take_snoc h1]
      · intro D H2 hD ⟨s2, e2⟩
        refine ⟨D, ds.map fun d => (partsD d).isSome, rfl, ?_, ?_⟩
        · rw [List.map_map]
          refine SqL.of ?_
          rw [e2, hl, List.take_length]
          rfl
        · rw [mapM_all]
          have z := q H2 (s1.trans s2)
          rw [rowD_seq hs] at z
          exact z
theorem scPolyI : FnScope ["self", "numbers", "row", "number"] ["self", "numbers"] (defScope sPolyI) := ⟨rfl, rfl, rfl, by decide +kernel, rfl, by decide +kernel, by decide +kernel⟩
theorem ok_poly_init {f : Addr} {fd : FuncData} (F : Fun K "__init__" "Poly.__init__" sPolyI f fd) (T : Bk mg) (C : PoC K mg CP) (N : Ex P w K mg base "BadRow" CR ["row"]) (Gi : Df P w K mg base "is_ratio_row" 3 ["value"] (spIsRow K)) (Gt : Dx P w K mg base "told" 4 ["value", "what"] (spTold K CN)) :
    FnOk P w K mg base (L2.CX P w) 5 f fd ["self", "numbers"] (spPolyI K CP CR) := by
  refine F.okX scPolyI (fun vs H Q E h => ?_) (fun cdv A outer s H vs Q E hr h => ?_)
  · obtain ⟨x, dx, v, d, rfl, _⟩ := h
    rfl
  · obtain ⟨x, dx, v, d, rfl, hx, hd, hlen, q, e⟩ := h
    refine ⟨_, (pss_cons (ps_if (pt_not (pt_val (pe_call Gi.ok (hr.mono (by decide)) rfl Gi.m Gi.kp Gi.b .nil pass0 (pa_cons (pv 1) pa_nil))))
        (pss_one (ps_raise rfl (takes_of rfl rfl rfl rfl) (pmk_oex N.ox N.iC N.tI N.ok (hr.mono (by decide)) N.b .nil pass0 (by rfl) N.m (pa_cons (pv 1) pa_nil))))
        pss_nil)
      (PSs.nox (pss_cons (ps_setLc (i := 2) (own := [("number", 3)]) (g := gName 3) (tt := tYes) rfl scPolyI.nd rfl rfl (sw_true rfl rfl rfl (by decide +kernel)) (pi_seq (pv 1)) (blkOk_by (N := ["self", "numbers", "row", "number"]) (sc := defScope sPolyI) (by decide +kernel)) (fun _ _ _ _ _ => pg_name (i := 3) scPolyI.nd rfl (Or.inl rfl)) (fun _ _ _ _ _ => pts_nil)
          (fun _ _ _ _ _ => pe_call Gt.ok hr rfl Gt.m Gt.kp Gt.b .nil passL (pa_cons (pv 3) (pa_cons pe_str pa_nil))))
      (pss_cons (ps_while PassesOwn.never (PW.pt (pw_and (pt_truth (pv 2) (by intro _; rfl)) (pw_and1 (pt_cmpR op_eq (pe_ix ix_tup (pe_ix ix_list (pv 2) (pe_un un_neg pe_int) (fun _ _ => rfl)) pe_int (fun _ _ => rfl)) pe_int (nomark _)))))
        (pss_one (ps_expr (pe_bm0 PySem.F.plainAttrs_list PySem.F.slot_list_pop PySem.F.type_list_pop mt_pop (pv 2)))))
      (pss_one (ps_fld (pv 0) (pe_callTy call_tuple_of (by rfl) T.tuple (by decide +kernel) (pa_cons (pv 2) pa_nil)) rfl)))))), ?_⟩
    refine ⟨_, rfl, v, d, rfl, hd, hlen, fun H1 s1 => ⟨_, rfl, ?_⟩⟩
    have hd1 := hd.mono s1
    cases hp : rowD d with
    | none =>
      refine iteT ?_
      refine ⟨_, rfl, (by show 1 ≤ 1000; decide), ?_⟩
      exact raise_end rfl fun dd H' s2 n e2 => (e hp).same s1 dd H' s2 n e2
    | some ps =>
      refine iteF ?_
      obtain ⟨hbig, q⟩ := q ps hp
      obtain ⟨ds, hs⟩ : ∃ ds, seqD d = some ds := by
        cases hs : seqD d with
        | none => rw [rowD_none hs] at hp; cases hp
        | some ds => exact ⟨ds, rfl⟩
      have hm := hp
      rw [rowD_seq hs] at hm
      obtain ⟨ml, mi⟩ := mapM_some hm
      obtain ⟨a, xs, rfl, hsq, hds⟩ := hd1.seq hs
      have hl := hds.len
      have hl2 := hlen ds hs
      refine ⟨_, rfl, a, rfl, lc_seq (xs := xs) hsq (fun D i H2 => Same H1 H2 ∧ ∃ as, H2 D = some (.lst (as.map V.ref)) ∧ Tups H2 as ((ps.map lowP).take i)) ?_ ?_ ?_ ?_⟩
      · intro D hD
        exact ⟨same_upd hD, [], upd_same, .nil⟩
      · intro D i H2 hD ⟨s2, _⟩
        exact ⟨same_sqL s2, same_sqT s2⟩
      · intro D i y H2 hD hi ⟨s2, as, e2, t2⟩
        obtain ⟨di, h1, h2⟩ := hds.at hi
        obtain ⟨p, h3, h4⟩ := mi i di h1
        obtain ⟨t, b⟩ := p
        refine ⟨rfl, ?_⟩
        refine ⟨_, rfl, y, .str "number", di, rfl, h2.mono s2, fun t' b' hp' => ?_, fun z => by rw [h4] at z; cases z⟩
        rw [h4] at hp'
        cases hp'
        refine ⟨hbig (t, b) (List.mem_of_getElem? h3), fun r H3 s3 e3 => ?_⟩
        have rD : r ≠ D := ne_of e3 (s3 _ _ e2) (by intro z; cases z)
        have up : ∀ (a : Addr) (p : Int × Int), H3 a = some (.tup [.int p.1, .int p.2]) → upd H3 D (.lst (as.map V.ref ++ [V.ref r])) a = some (.tup [.int p.1, .int p.2]) := fun a p z => by
          rw [upd_ne (ne_of z (s3 _ _ e2) (by intro z; cases z))]
          exact z
        refine ⟨_, s3 _ _ e2, ?_, (fun b o e => ?_), as ++ [r], ?_, ?_⟩
        · have := t2.len
          rw [List.length_take, List.length_map] at this
          rw [List.length_map, sizeLine_eq]
          omega
        · rw [upd_ne (ne_of_none e hD)]
          exact s3 _ _ (s2 _ _ e)
        · rw [upd_same, List.map_append]
          rfl
        · rw [List.take_succ, List.getElem?_map, h3]
          exact ((t2.same s3).imp up).snoc (up _ _ e3)
      · intro lr H2 nlr ⟨s2, as, e2, t2⟩
        have tk : (ps.map lowP).take xs.length = ps.map lowP := by
          rw [hl, ml]
          exact List.take_of_length_le (by rw [List.length_map]; exact Nat.le_refl _)
        rw [tk] at t2
        refine ⟨fun m σ H3 => ∃ as qs, m = List.length as ∧ (∃ v3, σ = [some (.ref x), some (.ref a), some (.ref lr), v3]) ∧ Same H1 H3 ∧ H3 lr = some (.lst (as.map V.ref)) ∧ Tups H3 as qs ∧ strip qs = strip (ps.map lowP) ∧ as.length ≤ 1000, ⟨_, as, _, rfl, ⟨_, rfl⟩, s2, e2, t2, rfl, ?_⟩, ?_⟩
        · have := t2.len
          rw [List.length_map] at this
          omega
        · rintro m σ H3 ⟨as, qs, rfl, ⟨v3, rfl⟩, s3, e3, t3, hst, hz⟩
          have fin : strip qs = qs → sFld K (tVar 0) (tCB (fun xs H Q => ∃ p ys, xs = [.ref p] ∧ ((SqL K H p ys ∧ ∀ l, H l = none → Q (.ref l) (upd H l (.tup ys))) ∨ (SqT K H p ys ∧ Q (.ref p) H))) (tCons (tVar 2) tNil)) "numbers" { nx := fun _ H' => Q .non H', rt := Q } [some (.ref x), some (.ref a), some (.ref lr), v3] H3 := fun hqs => by
            refine ⟨_, rfl, lr, _, rfl, .inl ⟨SqL.of e3, fun tq ntq => ?_⟩⟩
            have hx3 := s3 _ _ (s1 _ _ hx)
            have hxq : x ≠ tq := ne_of_none hx3 ntq
            refine ⟨_, rfl, x, CP, dx, [], rfl, (by rw [upd_ne hxq]; exact hx3), C.cl, C.nf, (by decide), ?_⟩
            refine q _ (fun b o nb eb => ?_) ⟨dx, tq, as, upd_same, (by rw [upd_ne hxq.symm]; exact upd_same), ?_⟩
            · have eb3 := s3 _ _ (s1 _ _ eb)
              rw [upd_ne nb, upd_ne (ne_of_none eb3 ntq)]
              exact eb3
            · rw [← hst, hqs]
              refine t3.imp fun c p z => ?_
              rw [upd_ne (ne_of z hx3 (by intro z; cases z)), upd_ne (ne_of_none z ntq)]
              exact z
          rcases snoc_cases qs with rfl | ⟨qs, y, rfl⟩
          · cases t3
            refine ⟨_, rfl, false, .inl ⟨[], SqL.of e3, rfl⟩, ?_⟩
            refine iteF ?_
            refine iteF ?_
            exact fin strip_nil
          · obtain ⟨as', r, rfl, t4, er⟩ := t3.unsnoc
            refine ⟨_, rfl, true, .inl ⟨_, SqL.of e3, by simp⟩, ?_⟩
            refine iteT ?_
            refine ⟨_, rfl, _, rfl, lr, _, _, .ref r, rfl, rfl, SqL.of e3, (by rw [List.map_append]; exact atI_last _ _), r, _, _, .int y.1, rfl, rfl, SqT.of er, at_of (j := 0) rfl rfl, rfl, _, rfl, ?_⟩
            by_cases y0 : y.1 = 0
            · rw [decide_eq_true (by rw [y0])]
              refine iteT ?_
              refine ⟨fun σ' H' => ∃ qs', (∃ v3, σ' = [some (.ref x), some (.ref a), some (.ref lr), v3]) ∧ Same H1 H' ∧ H' lr = some (.lst (as'.map V.ref)) ∧ Tups H' as' qs' ∧ strip qs' = strip (ps.map lowP) ∧ as'.length ≤ 1000, fun σ' H' ⟨qs', h1, h2, h3, h4, h5, h6⟩ => ⟨as'.length, by rw [List.length_append]; simp, as', qs', rfl, h1, h2, h3, h4, h5, h6⟩, ?_⟩
              refine ⟨_, rfl, .inl ⟨rfl, _, SqL.of e3⟩, lr, _, .ref r, rfl, rfl, e3, ?_, ?_⟩
              · simp
              · refine ⟨qs, ⟨_, rfl⟩, fun b o eb => ?_, ?_, ?_, ?_, ?_⟩
                · rw [upd_ne (ne_of_none eb nlr)]
                  exact s3 _ _ eb
                · rw [upd_same, List.map_append]
                  simp
                · refine t4.imp fun c p z => ?_
                  rw [upd_ne (ne_of z e3 (by intro z; cases z))]
                  exact z
                · rw [strip_snoc, if_pos y0] at hst
                  exact hst
                · rw [List.length_append] at hz
                  omega
            · rw [decide_eq_false (fun z => y0 (by have z2 := V.int.inj z; exact z2))]
              refine iteF ?_
              exact fin (by rw [strip_snoc, if_neg y0])
def spPolyE (K : PySem.W.Frag) (CP : Addr) : Sp := fun vs H Q _ => ∃ (a : Addr) (rs : List (Int × Int)) (v : V), vs = [.ref a, v] ∧ PolyAt K CP H a rs ∧
  ((∃ (b : Addr) (rs2 : List (Int × Int)), v = .ref b ∧ PolyAt K CP H b rs2 ∧ Q (.bl (decide (rs = rs2))) H) ∨ (∃ d, Dt K H v d ∧ Q (.bl false) H))
def spPolyD (K : PySem.W.Frag) (CP : Addr) : Sp := fun vs H Q _ => ∃ (a : Addr) (rs : List (Int × Int)), vs = [.ref a] ∧ PolyAt K CP H a rs ∧ Q (.int ((rs.length : Int) - 1)) H
def leadP (rs : List (Int × Int)) : Int × Int := rs.getLast?.getD (0, 1)
def spPolyL (K : PySem.W.Frag) (CP : Addr) : Sp := fun vs H Q _ => ∃ (a : Addr) (rs : List (Int × Int)), vs = [.ref a] ∧ PolyAt K CP H a rs ∧ ∀ (r : Addr) (H' : Hp), Same H H' → H' r = some (.tup [.int (leadP rs).1, .int (leadP rs).2]) → Q (.ref r) H'
theorem scPolyE : FnScope ["self", "other"] ["self", "other"] (defScope sPolyE) := ⟨rfl, rfl, rfl, by decide +kernel, rfl, by decide +kernel, by decide +kernel⟩
theorem ok_poly_eq {f : Addr} {fd : FuncData} (F : Fun K "__eq__" "Poly.__eq__" sPolyE f fd) (T : Bk mg) (hm1 : M1 base) (C : PoC K mg CP) : FnOk P w K mg base CX0 1 f fd ["self", "other"] (spPolyE K CP) := by
  refine F.ok scPolyE (fun vs H Q E h => ?_) (fun cdv A outer s H vs Q E hr h => ?_)
  · obtain ⟨a, rs, v, rfl, _⟩ := h
    rfl
  · obtain ⟨a, rs, v, rfl, ha, q⟩ := h
    refine ⟨_, (pss_one (ps_ret (pe_and (pe_callB call_isi (by rfl) T.isinstance (by decide +kernel) (pa_cons (pv 1) (pa_cons (pe_glob (v := V.ref CP) rfl C.m rfl) pa_nil))) (pe_one (pe_cmpR (op_eqT hr.units hm1) (pe_fld (pv 0) rfl) (pe_fld (pv 1) rfl) (nomark _)))))), ?_⟩
    rcases q with ⟨b, rs2, rfl, hb, q⟩ | ⟨d, hd, q⟩
    · refine ⟨_, rfl, .ref b, .ref CP, _, .ref CP, _, rfl, .own _, hb.ty C, C.io, _, rfl, ?_⟩
      refine iteT ?_
      obtain ⟨dx, t, as, h1, h2, h3⟩ := ha
      obtain ⟨dx2, t2, as2, g1, g2, g3⟩ := hb
      refine ⟨_, rfl, a, CP, dx, _, .ref t, rfl, h1, C.cl, C.nf, (by kernel_rfl), _, rfl, b, CP, dx2, _, .ref t2, rfl, g1, C.cl, C.nf, (by kernel_rfl), ?_⟩
      refine ⟨.tuple (rs.map pairD), .tuple (rs2.map pairD), .tup (SqT.of h2) h3.dts, .tup (SqT.of g2) g3.dts, (plain_row _).1, (plain_row _).1, (depth_row _).1, ?_⟩
      rw [eqv_row]
      exact q
    · refine ⟨_, rfl, v, .ref CP, _, .ref CP, _, rfl, .own _, hd.ty, C.no d, _, rfl, ?_⟩
      refine iteF ?_
      exact q
theorem scPolyD : FnScope ["self"] ["self"] (defScope sPolyD) := ⟨rfl, rfl, rfl, by decide +kernel, rfl, by decide +kernel, by decide +kernel⟩
theorem ok_poly_degree {f : Addr} {fd : FuncData} (F : Fun K "degree" "Poly.degree" sPolyD f fd) (T : Bk mg) (C : PoC K mg CP) : FnOk P w K mg base CX0 1 f fd ["self"] (spPolyD K CP) := by
  refine F.ok scPolyD (fun vs H Q E h => ?_) (fun cdv A outer s H vs Q E hr h => ?_)
  · obtain ⟨a, rs, rfl, _⟩ := h
    rfl
  · obtain ⟨a, rs, rfl, ⟨dx, t, as, h1, h2, h3⟩, q⟩ := h
    refine ⟨_, (pss_one (ps_ret (pe_op op_sub (pe_callB call_len_seq (by rfl) T.len (by decide +kernel) (pa_cons (pe_fld (pv 0) rfl) pa_nil)) pe_int))), ?_⟩
    refine ⟨_, rfl, a, CP, dx, _, .ref t, rfl, h1, C.cl, C.nf, (by kernel_rfl), t, _, rfl, .inr (SqT.of h2), _, _, rfl, rfl, ?_⟩
    rw [List.length_map, h3.len]
    exact q
end

end Vf

set_option maxRecDepth 100000
set_option maxHeartbeats 4000000
/-! a range that stands in a name, walked; rows of whole numbers -/
namespace Vf
open PySem PySem.Spec PyProof.Rows L2
section
variable {X : Cx} {tg : Expr}
def rRng1 : List V → Hp → VK → Prop := fun vs H Q => ∃ j, vs = [V.int j] ∧ ∀ p, H p = none → Q (.ref p) (upd H p (.rng 0 j))
theorem cr_range1 : CallR X (.type "range") rRng1 := by
  intro pins s σ H vs us Q I r h
  obtain ⟨j, rfl, q⟩ := h
  cases r with
  | cons r rr =>
    cases rr
    obtain ⟨t, rfl⟩ := r
    refine call_range_1 ⟨.ref s.heap.objs.size, upd H s.heap.objs.size (.rng 0 j), I.laid (t' := s.toks + 1 + 1) (fun b o e => Heap.get?_push_of_some _ e) (Nat.le_refl _) ?_, rfl, q _ (I.hok.fresh (Nat.le_refl _))⟩
    exact ⟨_, t, _, Heap.get?_push_size _ rfl⟩
def iRngV (te : TE) : TI := fun σ H R => te σ H fun x H1 => ∃ a lo hi, x = .ref a ∧ H1 a = some (.rng lo hi) ∧ (-(2 ^ 62) ≤ lo ∧ lo < 2 ^ 62 ∧ -(2 ^ 62) ≤ hi ∧ hi < 2 ^ 62) ∧ R (Itr lo (hi - lo).toNat) H1
theorem pi_rng {l : Expr} {tl : TE} (hl : PE X l tl) : PI X tg l (iRngV tl) := by
  refine ⟨fun pins s σ H R I h => ?_⟩
  refine thn (hl.run pins s σ H _ I h) fun v s1 ⟨x, H1, I1, r1, q1⟩ => ?_
  obtain ⟨a, lo, hi, rfl, ha, ⟨h1, h2, h3, h4⟩, q⟩ := q1
  cases r1
  obtain ⟨t, u, v, ho⟩ := I1.hok a _ ha
  refine wpAny_pyIter_range (show IsRange s1.heap a lo hi 1 t u v from ho) (small_one h1 h2 h3 h4) ?_
  refine ⟨s1.heap.objs.size, [s1.heap.objs.size], _, _, H1, rfl, I1.kept (t' := s1.toks) fun b o e => Heap.get?_push_of_some _ e, turn_range _ lo (hi - lo).toNat, ?_, fun b hb => ?_, q⟩
  · have e1 : lo + ((0 : Nat) : Int) * 1 = lo := by simp
    have e2 : (((hi - lo).toNat : Nat) : Int) - ((0 : Nat) : Int) = Builtin.Range.rangeSize lo hi 1 := by rw [rangeSize_one]; split <;> omega
    show IsRangeIter _ _ (lo + ((0 : Nat) : Int) * 1) ((((hi - lo).toNat : Nat) : Int) - ((0 : Nat) : Int)) 1
    rw [e1, e2]
    exact Heap.get?_push_size _ rfl
  · have e : b = s1.heap.objs.size := by simpa using hb
    subst e
    exact I1.fpOk (Nat.le_refl _) (I1.hok.fresh (Nat.le_refl _))
end
/-! ### whole numbers over one bottom -/
/-- the row ns tells the numbers qs over M -/
def Over (M : Int) (ns : List Int) (qs : List Rat) : Prop := ns.length = qs.length ∧ ∀ i, ((ns.getD i 0 : Int) : Rat) = cf qs i * (M : Rat)
def ci (ns : List Int) (i : Nat) : Int := ns.getD i 0
theorem Over.at {M : Int} {ns : List Int} {qs : List Rat} (h : Over M ns qs) (i : Nat) : cf qs i * (M : Rat) = ((ci ns i : Int) : Rat) := (h.2 i).symm
theorem ci_lt {l : List Int} {i : Nat} (h : i < l.length) : l[i]? = some (ci l i) := by
  unfold ci
  rw [List.getD_eq_getElem?_getD, List.getElem?_eq_getElem h]
  rfl
theorem ci_get {l : List Int} {i : Nat} {x : Int} (h : l[i]? = some x) : ci l i = x := by
  unfold ci
  rw [List.getD_eq_getElem?_getD, h]
  rfl
theorem ci_ge {l : List Int} {i : Nat} (h : l.length ≤ i) : ci l i = 0 := by
  unfold ci
  rw [List.getD_eq_getElem?_getD, List.getElem?_eq_none_iff.mpr h]
  rfl
def tabI (n : Nat) (f : Nat → Int) : List Int := (List.range n).map f
theorem tabI_len (n : Nat) (f : Nat → Int) : (tabI n f).length = n := by unfold tabI; rw [List.length_map, List.length_range]
theorem tabI_snoc (n : Nat) (f : Nat → Int) : tabI (n + 1) f = tabI n f ++ [f n] := by
  unfold tabI
  rw [List.range_succ, List.map_append]
  rfl
theorem ci_tab (n : Nat) (f : Nat → Int) (i : Nat) : ci (tabI n f) i = if i < n then f i else 0 := by
  unfold ci tabI
  rw [List.getD_eq_getElem?_getD, List.getElem?_map]
  by_cases h : i < n
  · rw [if_pos h, List.getElem?_range h]; rfl
  · rw [if_neg h, List.getElem?_eq_none_iff.mpr (by rw [List.length_range]; omega)]; rfl
def smI (f : Nat → Int) : Nat → Int
  | 0 => 0
  | n + 1 => smI f n + f n
theorem smI_cast (f : Nat → Int) : ∀ n, ((smI f n : Int) : Rat) = sm (fun i => (f i : Rat)) n
  | 0 => rfl
  | n + 1 => by
    show (((smI f n + f n : Int)) : Rat) = sm (fun i => (f i : Rat)) n + (f n : Rat)
    rw [Rat.intCast_add, smI_cast f n]
end Vf

set_option maxRecDepth 100000
set_option maxHeartbeats 8000000
namespace Vf
open PySem PySem.Spec PyProof.Rows L2
/-! ### the program's rows -/
/-- a row, a list or a tuple, of the pairs of these numbers -/
def RS (K : PySem.W.Frag) (H : Hp) (l : Addr) (qs : List Rat) : Prop := ∃ as, (SqL K H l (as.map V.ref) ∨ SqT K H l (as.map V.ref)) ∧ Tups H as (qs.map pq)
theorem RS.same {K : PySem.W.Frag} {H H' : Hp} {l : Addr} {qs : List Rat} (h : RS K H l qs) (s : Same H H') : RS K H' l qs := by
  obtain ⟨as, e, t⟩ := h
  exact ⟨as, e.imp (same_sqL s) (same_sqT s), t.same s⟩
theorem RS.of {K : PySem.W.Frag} {H : Hp} {l : Addr} {qs : List Rat} (h : RL H l qs) : RS K H l qs := by
  obtain ⟨as, e, t⟩ := h
  exact ⟨as, .inl (SqL.of e), t⟩
theorem low_Z {q : Rat} : low q.num q.den = pq q := low_id (pq_low q)
theorem parts_q (q : Rat) : partsD (pairD (pq q)) = some (q.num, (q.den : Int)) := by
  show (if 0 < (q.den : Int) then some (q.num, (q.den : Int)) else none) = _
  rw [if_pos (by have := q.den_pos; omega)]
/-- below 2 ^ 4300 above and below -/
def Z2 (q : Rat) : Prop := Sz q.num ∧ Sz (q.den : Int)
theorem z2_zero : Z2 0 := ⟨by show (0 : Nat) < 2 ^ 4300; decide +kernel, by show (1 : Nat) < 2 ^ 4300; decide +kernel⟩
theorem z2_neg {q : Rat} (h : Z2 q) : Z2 (-q) := by
  refine ⟨?_, ?_⟩
  · show (-q).num.natAbs < _
    rw [Rat.neg_num, Int.natAbs_neg]
    exact h.1
  · show ((-q).den : Int).natAbs < _
    rw [Rat.neg_den]
    exact h.2
def rIxS (K : PySem.W.Frag) : R2 := fun x y H Q => ∃ p xs i v, x = .ref p ∧ y = .int i ∧ (SqL K H p xs ∨ SqT K H p xs) ∧ atI xs i = some v ∧ Q v H
theorem ix_seq {X : Cx} : IxR X (rIxS X.K) := by
  intro value slice pins s σ H x y v u Q I rx ry h hs
  obtain ⟨p, xs, i, z, e1, e2, hq, he, q⟩ := h
  rcases hq with hq | hq
  · exact ix_list value slice pins s σ H x y v u Q I rx ry ⟨p, xs, i, z, e1, e2, hq, he, q⟩ hs
  · exact ix_tup value slice pins s σ H x y v u Q I rx ry ⟨p, xs, i, z, e1, e2, hq, he, q⟩ hs
theorem RS.getQ {K : PySem.W.Frag} {H : Hp} {l : Addr} {qs : List Rat} (h : RS K H l qs) : ∃ xs : List V, (SqL K H l xs ∨ SqT K H l xs) ∧ xs.length = qs.length ∧ ∀ i, i < qs.length → ∃ a, xs[i]? = some (.ref a) ∧ TR H a (cf qs i) := by
  obtain ⟨as, e, t⟩ := h
  refine ⟨_, e, by rw [List.length_map, t.lenQ], fun i hi => ?_⟩
  obtain ⟨a, h1, h2⟩ := t.getQ hi
  exact ⟨a, by rw [List.getElem?_map, h1]; rfl, h2⟩
def spNumOf (K : PySem.W.Frag) : Sp := fun vs H Q _ => ∃ (l : Addr) (a : List Rat) (i : Nat), vs = [.ref l, .int i] ∧ RS K H l a ∧ ∀ (r : Addr) (H' : Hp), Same H H' → TR H' r (cf a i) → Q (.ref r) H'
def spSums (K : PySem.W.Frag) : Sp := fun vs H Q _ => ∃ (l1 l2 : Addr) (a b : List Rat), vs = [.ref l1, .ref l2] ∧ RS K H l1 a ∧ RS K H l2 b ∧ a.length ≤ 500 ∧ b.length ≤ 500 ∧ (∀ i, Z2 (cf a i)) ∧ (∀ i, Z2 (cf b i)) ∧ ∀ (l : Addr) (H' : Hp), Same H H' → RL H' l (padd a b) → Q (.ref l) H'
def spOpp (K : PySem.W.Frag) : Sp := fun vs H Q _ => ∃ (l1 : Addr) (a : List Rat), vs = [.ref l1] ∧ RS K H l1 a ∧ a.length ≤ 500 ∧ ∀ (l : Addr) (H' : Hp), Same H H' → RL H' l (a.map (- ·)) → Q (.ref l) H'
section
variable {P : Program} {w : World} {K : PySem.W.Frag} {mg : Str → Option Value} {base : Heap} {CP CR CN : Addr}
abbrev sNumOf : Stmt := topS 27
abbrev sSums : Stmt := topS 28
abbrev sOpp : Stmt := topS 29
theorem scNumOf : FnScope ["numbers", "power"] ["numbers", "power"] (defScope sNumOf) := ⟨rfl, rfl, rfl, by decide +kernel, rfl, by decide +kernel, by decide +kernel⟩
theorem ok_num_of {f : Addr} {fd : FuncData} (F : Fun K "number_of" "number_of" sNumOf f fd) (T : Bk mg) : FnOk P w K mg base CX0 1 f fd ["numbers", "power"] (spNumOf K) := by
  refine F.ok scNumOf (fun vs H Q E h => ?_) (fun cdv A outer s H vs Q E hr h => ?_)
  · obtain ⟨l, a, i, rfl, _⟩ := h
    rfl
  · obtain ⟨l, a, i, rfl, hl, q⟩ := h
    refine ⟨_, (pss_one (ps_ret (pe_ifExp (pt_cmpR op_lt (pv 1) (pe_callB call_len_seq (by rfl) T.len (by decide +kernel) (pa_cons (pv 0) pa_nil)) (nomark _)) (pe_ix ix_seq (pv 0) (pv 1) (fun _ _ => rfl)) (pe_tup (pa_cons pe_int (pa_cons pe_int pa_nil)))))), ?_⟩
    obtain ⟨xs, hx, hn, get⟩ := hl.getQ
    refine ⟨_, rfl, _, rfl, l, xs, rfl, hx, _, _, rfl, rfl, _, rfl, ?_⟩
    rw [hn]
    by_cases hi : i < a.length
    · rw [decide_eq_true (show (i : Int) < (a.length : Nat) by omega)]
      refine iteT ?_
      obtain ⟨r, h1, h2⟩ := get i hi
      exact ⟨_, rfl, _, rfl, l, xs, _, _, rfl, rfl, hx, at_of (j := i) rfl h1, q r H (Same.refl _) h2⟩
    · rw [decide_eq_false (show ¬(i : Int) < (a.length : Nat) by omega)]
      refine iteF ?_
      refine ⟨(by show 2 ≤ sizeLine; decide), fun t nt => q t _ (same_upd nt) ?_⟩
      rw [cf_ge (by omega)]
      exact tr_zero upd_same
theorem scSums : FnScope ["one", "other", "powers", "power"] ["one", "other"] (defScope sSums) := ⟨rfl, rfl, rfl, by decide +kernel, rfl, by decide +kernel, by decide +kernel⟩
theorem ok_sums {f : Addr} {fd : FuncData} (F : Fun K "sums_of" "sums_of" sSums f fd) (T : Bk mg) (hmax : mg "max" = none) (Gn : Df P w K mg base "number_of" 1 ["numbers", "power"] (spNumOf K)) (Gp : Dx P w K mg base "plus" 4 ["one", "other"] (spTwo K CN (okLow gPlus))) : FnOk P w K mg base (L2.CX P w) 5 f fd ["one", "other"] (spSums K) := by
  refine F.okX scSums (fun vs H Q E h => ?_) (fun cdv A outer s H vs Q E hr h => ?_)
  · obtain ⟨l1, l2, a, b, rfl, _⟩ := h
    rfl
  · obtain ⟨l1, l2, a, b, rfl, h1, h2, la, lb, za, zb, q⟩ := h
    refine ⟨_, (pss_cons (ps_set (i := 2) scSums.nd rfl (Or.inl rfl) (pe_callTy cr_range1 (by rfl) T.range (by decide +kernel) (pa_cons (pe_callB (call_max2 rfl) (by rfl) hmax (by decide +kernel) (pa_cons (pe_callB call_len_seq (by rfl) T.len (by decide +kernel) (pa_cons (pv 0) pa_nil)) (pa_cons (pe_callB call_len_seq (by rfl) T.len (by decide +kernel) (pa_cons (pv 1) pa_nil)) pa_nil))) pa_nil)))
      (pss_one (ps_ret (pe_lc (own := [("power", 3)]) (g := gName 3) (tt := tYes) rfl scSums.nd (pi_rng (pv 2)) (blkOk_by (N := ["one", "other", "powers", "power"]) (sc := defScope sSums) (by decide +kernel)) (fun _ _ _ _ _ => pg_name (i := 3) scSums.nd rfl (Or.inl rfl)) (fun _ _ _ _ _ => pts_nil)
        (fun _ _ _ _ _ => (pe_call Gp.ok (hr.mono (by decide)) rfl Gp.m Gp.kp Gp.b .nil passL (pa_cons (pe_call Gn.ok (hr.mono (by decide)) rfl Gn.m Gn.kp Gn.b .nil pass0 (pa_cons (pv 0) (pa_cons (pv 3) pa_nil))) (pa_cons (pe_call Gn.ok (hr.mono (by decide)) rfl Gn.m Gn.kp Gn.b .nil pass0 (pa_cons (pv 1) (pa_cons (pv 3) pa_nil))) pa_nil)))))))), ?_⟩
    obtain ⟨xs, hx, hn, _⟩ := h1.getQ
    obtain ⟨ys, hy, hm, _⟩ := h2.getQ
    refine ⟨_, rfl, l1, xs, rfl, hx, _, rfl, l2, ys, rfl, hy, _, _, rfl, ?_⟩
    rw [hn, hm]
    have em : (if ((b.length : Nat) : Int) > ((a.length : Nat) : Int) then ((b.length : Nat) : Int) else ((a.length : Nat) : Int)) = ((max a.length b.length : Nat) : Int) := by split <;> omega
    rw [em]
    generalize hmx : max a.length b.length = n
    refine ⟨_, rfl, fun p np => ?_⟩
    have ep : upd H p (HO.rng 0 (n : Int)) p = some (HO.rng 0 (n : Int)) := upd_same
    have s1 : Same H (upd H p (HO.rng 0 (n : Int))) := same_upd np
    generalize upd H p (HO.rng 0 (n : Int)) = H1 at ep s1 ⊢
    refine ⟨_, rfl, p, 0, n, rfl, ep, by omega, fun D hD => ?_⟩
    rw [show ((n : Int) - 0).toNat = n by omega]
    refine lc_range (lo := 0) (n := n) (fun i H' => Same H1 H' ∧ ∃ zs, H' D = some (.lst (zs.map V.ref)) ∧ Tups H' zs ((tab i fun j => cf a j + cf b j).map pq)) ⟨same_upd hD, [], upd_same, .nil⟩ ?_ ?_
    · rintro i H' hi ⟨ss, zs, eD, tz⟩
      have e0 : (0 + (i : Int)) = (i : Int) := by omega
      refine ⟨rfl, ?_⟩
      rw [e0]
      refine ⟨_, rfl, _, rfl, l1, a, i, rfl, (h1.same s1).same ss, fun ra H2 s2 tra => ?_⟩
      refine ⟨_, rfl, _, rfl, l2, b, i, rfl, ((h2.same s1).same ss).same s2, fun rb H3 s3 trb => ?_⟩
      refine ⟨_, _, pairD (pq (cf a i)), pairD (pq (cf b i)), rfl, .tup (SqT.of (s3 _ _ tra)) (.cons (.int _) (.cons (.int _) .nil)), .tup (SqT.of trb) (.cons (.int _) (.cons (.int _) .nil)), fun t b' x c h3 h4 => ?_, (fun z => by rw [parts_q] at z; cases z), (fun _ z => by rw [parts_q] at z; cases z)⟩
      rw [parts_q] at h3 h4
      cases h3
      cases h4
      refine ⟨(za i).1, (za i).2, (zb i).1, (zb i).2, fun r' H'' s' er => ?_⟩
      have er : TR H'' r' (cf a i + cf b i) := by
        have z := low_add (cf a i) (cf b i)
        unfold gPlus at er
        rw [z] at er
        exact er
      have eD' := s' _ _ (s3 _ _ (s2 _ _ eD))
      refine ⟨_, eD', ?_, (fun b' o' e' => ?_), zs ++ [r'], ?_, ?_⟩
      · have := tz.lenQ
        rw [tab_len] at this
        rw [List.length_map, sizeLine_eq]
        omega
      · rw [upd_ne (ne_of_none e' hD)]
        exact s' _ _ (s3 _ _ (s2 _ _ (ss _ _ e')))
      · rw [upd_same, List.map_append]
        rfl
      · rw [tab_snoc]
        have up : ∀ (c : Addr) (p : Int × Int), H'' c = some (.tup [.int p.1, .int p.2]) → upd H'' D (.lst (zs.map V.ref ++ [V.ref r'])) c = some (.tup [.int p.1, .int p.2]) := fun c p z => by
          rw [upd_ne (ne_of z eD' (by intro z; cases z))]
          exact z
        exact Tups.snocQ ((((tz.same s2).same s3).same s').imp up) (up _ (pq _) er)
    · rintro H' ⟨ss, zs, eD, tz⟩
      refine q D H' (s1.trans ss) ⟨zs, eD, ?_⟩
      unfold padd
      rw [hmx]
      exact tz
theorem scOpp : FnScope ["numbers", "top", "bottom"] ["numbers"] (defScope sOpp) := ⟨rfl, rfl, rfl, by decide +kernel, rfl, by decide +kernel, by decide +kernel⟩
theorem ok_opp {f : Addr} {fd : FuncData} (F : Fun K "opposites_of" "opposites_of" sOpp f fd) : FnOk P w K mg base CX0 1 f fd ["numbers"] (spOpp K) := by
  refine F.ok scOpp (fun vs H Q E h => ?_) (fun cdv A outer s H vs Q E hr h => ?_)
  · obtain ⟨l1, a, rfl, _⟩ := h
    rfl
  · obtain ⟨l1, a, rfl, ⟨as, e1, t1⟩, la, q⟩ := h
    refine ⟨_, (pss_one (ps_ret (pe_lc (own := [("top", 1), ("bottom", 2)]) (g := gTup K 2 (gCons (gName 1) (gCons (gName 2) gNil))) (tt := tYes) rfl scOpp.nd (pi_seq (pv 0)) (blkOk_by (N := ["numbers", "top", "bottom"]) (sc := defScope sOpp) (by decide +kernel)) (fun _ _ _ _ _ => pg_tup rfl (pgs_cons (pg_name (i := 1) scOpp.nd rfl (Or.inl rfl)) (pgs_cons (pg_name (i := 2) scOpp.nd rfl (Or.inl rfl)) pgs_nil))) (fun _ _ _ _ _ => pts_nil)
      (fun _ _ _ _ _ => (pe_tup (pa_cons (pe_un un_neg (pv 1)) (pa_cons (pv 2) pa_nil))))))), ?_⟩
    have n1 := t1.lenQ
    refine ⟨_, rfl, l1, rfl, lc_seq (xs := as.map V.ref) e1 (fun D i H' => Same H H' ∧ ∃ zs, H' D = some (.lst (zs.map V.ref)) ∧ Tups H' zs ((tab i fun j => -cf a j).map pq)) ?_ ?_ ?_ ?_⟩
    · intro D hD
      exact ⟨same_upd hD, [], upd_same, .nil⟩
    · intro D i H2 hD ⟨s2, _⟩
      exact ⟨same_sqL s2, same_sqT s2⟩
    · intro D i x H' hD hi ⟨ss, zs, eD, tz⟩
      rw [List.getElem?_map] at hi
      cases hr0 : as[i]? with
      | none => rw [hr0] at hi; cases hi
      | some r =>
        rw [hr0] at hi
        cases hi
        obtain ⟨qq, hq1, hq2⟩ := t1.atQ hr0
        have hc := cf_get hq1
        refine ⟨r, _, rfl, SqT.of (ss _ _ hq2), rfl, _, _, rfl, _, _, rfl, rfl, rfl, ?_⟩
        refine ⟨_, rfl, _, rfl, _, rfl, (by show 2 ≤ sizeLine; decide), fun t nt => ?_⟩
        have et : TR (upd H' t (HO.tup [V.int (-qq.num), V.int (qq.den : Int)])) t (-cf a i) := by
          rw [hc]
          unfold TR
          rw [upd_same, Rat.neg_num, Rat.neg_den]
        have st : Same H' (upd H' t (HO.tup [V.int (-qq.num), V.int (qq.den : Int)])) := same_upd nt
        generalize upd H' t (HO.tup [V.int (-qq.num), V.int (qq.den : Int)]) = H2 at et st ⊢
        have eD' := st _ _ eD
        refine ⟨_, eD', ?_, (fun b' o' e' => ?_), zs ++ [t], ?_, ?_⟩
        · have := tz.lenQ
          have := (List.getElem?_eq_some_iff.mp hr0).1
          rw [tab_len] at *
          rw [List.length_map, sizeLine_eq]
          omega
        · rw [upd_ne (ne_of_none e' hD)]
          exact st _ _ (ss _ _ e')
        · rw [upd_same, List.map_append]
          rfl
        · rw [tab_snoc]
          have up : ∀ (c : Addr) (p : Int × Int), H2 c = some (.tup [.int p.1, .int p.2]) → upd H2 D (.lst (zs.map V.ref ++ [V.ref t])) c = some (.tup [.int p.1, .int p.2]) := fun c p z => by
            rw [upd_ne (ne_of z eD' (by intro z; cases z))]
            exact z
          exact Tups.snocQ ((tz.same st).imp up) (up t (pq (-cf a i)) et)
    · intro D H' hD ⟨ss, zs, eD, tz⟩
      rw [List.length_map, n1] at tz
      have e : (tab a.length fun j => -cf a j) = a.map (- ·) := by
        refine List.ext_getElem? fun i => ?_
        unfold tab
        rw [List.getElem?_map, List.getElem?_map]
        by_cases h : i < a.length
        · rw [List.getElem?_range h, List.getElem?_eq_getElem h]
          show some (-cf a i) = some (-a[i])
          rw [cf_lt h]
        · rw [List.getElem?_eq_none_iff.mpr (by rw [List.length_range]; omega), List.getElem?_eq_none_iff.mpr (by omega)]
          rfl
      rw [e] at tz
      exact q D H' ss ⟨zs, eD, tz⟩
end

end Vf

set_option maxRecDepth 100000
set_option maxHeartbeats 8000000
namespace Vf
open PySem PySem.Spec PyProof.Rows L2
/-! ### rows over one bottom -/
/-- the numbers of a Poly of the law -/
def Sm (q : Rat) : Prop := q.num.natAbs ≤ 2 ^ 13 ∧ q.den ≤ 2 ^ 12
theorem sm_zero' : Sm 0 := ⟨Nat.zero_le _, by show 1 ≤ 2 ^ 12; decide⟩
theorem num_den (q : Rat) : q * ((q.den : Nat) : Rat) = ((q.num : Int) : Rat) := by
  obtain ⟨n, e, h⟩ := Fr.self q
  have h0 : (q.den : Rat) ≠ 0 := by
    have := q.den_nz
    exact_mod_cast this
  have z : (q.num : Rat) / (q.den : Rat) = q := by
    have := Rat.num_divInt_den q
    rw [Rat.divInt_eq_div] at this
    exact_mod_cast this
  have := Rat.div_mul_cancel (a := (q.num : Rat)) h0
  rw [z] at this
  exact this
theorem over_one {q : Rat} {b : Nat} (h : q.den ∣ b) : q * (b : Rat) = ((q.num * ((b : Int) / (q.den : Int)) : Int) : Rat) := by
  obtain ⟨k, rfl⟩ := h
  have e : ((q.den * k : Nat) : Int) / (q.den : Int) = (k : Int) := by
    have := q.den_nz
    rw [Int.natCast_mul, Int.mul_ediv_cancel_left _ (by omega)]
  rw [e]
  have e2 : ((q.den * k : Nat) : Rat) = (q.den : Rat) * (k : Rat) := by exact_mod_cast rfl
  have e3 : ((q.num * (k : Int) : Int) : Rat) = (q.num : Rat) * (k : Rat) := by exact_mod_cast rfl
  rw [e2, e3, ← Rat.mul_assoc, num_den]
def spOver (K : PySem.W.Frag) : Sp := fun vs H Q _ => ∃ (l : Addr) (as : List Addr) (a : List Rat), vs = [.ref l] ∧ SqT K H l (as.map V.ref) ∧ Tups H as (a.map pq) ∧ a.length ≤ 13 ∧ (∀ i, Sm (cf a i)) ∧
  ∀ (r l' : Addr) (ns : List Int) (b : Nat) (H' : Hp), Same H H' → H' r = some (.tup [.ref l', .int (b : Int)]) → H' l' = some (.lst (ns.map V.int)) → 0 < b → b ≤ 2 ^ 156 → ns.length = a.length → (∀ i, cf a i * (b : Rat) = ((ci ns i : Int) : Rat)) → (∀ i, (ci ns i).natAbs ≤ 2 ^ 169) → Q (.ref r) H'
section
variable {P : Program} {w : World} {K : PySem.W.Frag} {mg : Str → Option Value} {base : Heap} {CP CR CN : Addr}
abbrev sOver : Stmt := topS 31
theorem scOver : FnScope ["numbers", "below", "number", "top", "bottom"] ["numbers"] (defScope sOver) := ⟨rfl, rfl, rfl, by decide +kernel, rfl, by decide +kernel, by decide +kernel⟩
theorem lt_4000 {b : Nat} {k : Nat} (h : b ≤ 2 ^ k) (hk : k < 8700) : b < 2 ^ 8700 := Nat.lt_of_le_of_lt h (Nat.pow_lt_pow_right (by decide) hk)
theorem ok_over {f : Addr} {fd : FuncData} (F : Fun K "over_one_bottom" "over_one_bottom" sOver f fd) (hlcm : mg "lcm" = some (.builtin "math.lcm")) : FnOk P w K mg base CX0 1 f fd ["numbers"] (spOver K) := by
  refine F.ok scOver (fun vs H Q E h => ?_) (fun cdv A outer s H vs Q E hr h => ?_)
  · obtain ⟨l, as, a, rfl, _⟩ := h
    rfl
  · obtain ⟨l, as, a, rfl, hS, t1, la, sa, q⟩ := h
    refine ⟨_, (pss_cons (ps_set (i := 1) scOver.nd rfl (Or.inr rfl) pe_int)
  (pss_cons (ps_for PassesOwn.never rfl (pi_tup (pv 0)) (pg_name (i := 2) scOver.nd rfl (Or.inl rfl))
    (pss_one (ps_set (i := 1) scOver.nd rfl (Or.inr rfl) (pe_callBfun cr_lcm (by rfl) hlcm (pa_cons (pv 1) (pa_cons (pe_ix ix_tup (pv 2) pe_int (fun _ _ => rfl)) pa_nil))))))
  (pss_one (ps_ret (pe_tup (pa_cons (pe_lc (own := [("top", 3), ("bottom", 4)]) (g := gTup K 2 (gCons (gName 3) (gCons (gName 4) gNil))) (tt := tYes) rfl scOver.nd (pi_seq (pv 0)) (blkOk_by (N := ["numbers", "below", "number", "top", "bottom"]) (sc := defScope sOver) (by decide +kernel)) (fun _ _ _ _ _ => pg_tup rfl (pgs_cons (pg_name (i := 3) scOver.nd rfl (Or.inl rfl)) (pgs_cons (pg_name (i := 4) scOver.nd rfl (Or.inl rfl)) pgs_nil))) (fun _ _ _ _ _ => pts_nil) (fun _ _ _ _ _ => (pe_op op_mulW (pv 3) (pe_op op_fdivW (pv 1) (pv 4))))) (pa_cons (pv 1) pa_nil))))))), ?_⟩
    have n1 := t1.lenQ
    refine ⟨_, rfl, l, rfl, ⟨_, hS⟩, for_tup (K := K) (a := l) (xs := as.map V.ref) (fun i σ H' => ∃ (b : Nat) (v : Option V), σ = [some (.ref l), some (.int (b : Int)), v, none, none] ∧ Same H H' ∧ 0 < b ∧ b ≤ (2 ^ 12) ^ i ∧ ∀ j, j < i → (cf a j).den ∣ b)
      ⟨1, none, rfl, Same.refl _, by decide, by decide, fun j hj => by omega⟩ (fun i σ H' _ ⟨_, _, _, ss, _⟩ => same_sqT ss hS) ?_ ?_⟩
    · rintro i x σ H' hi ⟨b, v, rfl, ss, b0, bi, dv⟩
      rw [List.getElem?_map] at hi
      cases hr0 : as[i]? with
      | none => rw [hr0] at hi; cases hi
      | some r =>
        rw [hr0] at hi
        cases hi
        obtain ⟨qq, hq1, hq2⟩ := t1.atQ hr0
        have hc := cf_get hq1
        have hi13 : i < 13 := by
          have := (List.getElem?_eq_some_iff.mp hr0).1
          omega
        have hb : b < 2 ^ 8800 := by
          have e : ((2 : Nat) ^ 12) ^ i = 2 ^ (12 * i) := (Nat.pow_mul _ _ _).symm
          rw [e] at bi
          exact Nat.lt_of_le_of_lt bi (Nat.pow_lt_pow_right (by decide) (by omega))
        have hd : qq.den ≤ 2 ^ 12 := by rw [← hc]; exact (sa i).2
        have hd0 := qq.den_pos
        refine ⟨_, rfl, _, rfl, r, _, _, .int (qq.den : Int), rfl, rfl, SqT.of (ss _ _ hq2), at_of (j := 1) rfl rfl, _, _, rfl, by rw [Int.natAbs_natCast]; exact hb, by rw [Int.natAbs_natCast]; exact Nat.lt_of_le_of_lt hd (Nat.pow_lt_pow_right (by decide) (by decide)), ?_⟩
        rw [Int.natAbs_natCast, Int.natAbs_natCast]
        refine ⟨b.lcm qq.den, _, rfl, ss, Nat.lcm_pos b0 hd0, ?_, fun j hj => ?_⟩
        · have le : b.lcm qq.den ≤ b * qq.den := Nat.le_of_dvd (Nat.mul_pos b0 hd0) (Nat.lcm_dvd_mul b qq.den)
          rw [Nat.pow_succ]
          exact Nat.le_trans le (Nat.mul_le_mul bi hd)
        · by_cases e : j = i
          · rw [e, hc]
            exact Nat.dvd_lcm_right _ _
          · exact Nat.dvd_trans (dv j (by omega)) (Nat.dvd_lcm_left _ _)
    · rintro σ H' ⟨b, v, rfl, ss, b0, bi, dv⟩
      rw [List.length_map, n1] at bi dv
      have b156 : b ≤ 2 ^ 156 := by
        have e : ((2 : Nat) ^ 12) ^ a.length = 2 ^ (12 * a.length) := (Nat.pow_mul _ _ _).symm
        rw [e] at bi
        exact Nat.le_trans bi (Nat.pow_le_pow_right (by decide) (by omega))
      have hS' := same_sqT ss hS
      have t1' := t1.same ss
      let g : Nat → Int := fun i => (cf a i).num * ((b : Int) / ((cf a i).den : Int))
      have hg : ∀ i, i < a.length → (g i).natAbs ≤ 2 ^ 169 := fun i hi => by
        show ((cf a i).num * ((b : Int) / ((cf a i).den : Int))).natAbs ≤ _
        rw [Int.natAbs_mul, show (2 : Nat) ^ 169 = 2 ^ 13 * 2 ^ 156 from by decide +kernel]
        refine Nat.mul_le_mul (sa i).1 (Nat.le_trans ?_ b156)
        rw [← Int.natCast_ediv, Int.natAbs_natCast]
        exact Nat.div_le_self _ _
      refine ⟨_, rfl, l, rfl, lc_seq (xs := as.map V.ref) (.inr hS') (fun D i H2 => Same H' H2 ∧ H2 D = some (.lst ((tabI i g).map V.int))) ?_ ?_ ?_ ?_⟩
      · intro D hD
        exact ⟨same_upd hD, upd_same⟩
      · intro D i H2 hD ⟨s2, _⟩
        exact ⟨same_sqL s2, same_sqT s2⟩
      · intro D i x H2 hD hi ⟨s2, eD⟩
        rw [List.getElem?_map] at hi
        cases hr0 : as[i]? with
        | none => rw [hr0] at hi; cases hi
        | some r =>
          rw [hr0] at hi
          cases hi
          obtain ⟨qq, hq1, hq2⟩ := t1'.atQ hr0
          have hc := cf_get hq1
          have hi13 := (List.getElem?_eq_some_iff.mp hr0).1
          have h1 : (qq.num).natAbs < 2 ^ 8700 := lt_4000 (by rw [← hc]; exact (sa i).1) (by decide)
          have h2 : ((b : Int) / (qq.den : Int)).natAbs < 2 ^ 8700 := by
            rw [← Int.natCast_ediv, Int.natAbs_natCast]
            exact lt_4000 (Nat.le_trans (Nat.div_le_self _ _) b156) (by decide)
          refine ⟨r, _, rfl, SqT.of (s2 _ _ hq2), rfl, _, _, rfl, _, _, rfl, rfl, rfl, ?_⟩
          refine ⟨_, rfl, _, rfl, _, rfl, _, _, rfl, rfl, ?_, _, _, rfl, rfl, big_mulW h1 h2, ?_⟩
          · have := qq.den_pos
            refine ⟨by omega, ?_⟩
            rw [Int.natAbs_natCast]
            have h3 : qq.den < 2 ^ 8800 := Nat.lt_of_le_of_lt (show qq.den ≤ 2 ^ 12 by rw [← hc]; exact (sa i).2) (Nat.pow_lt_pow_right (by decide) (by decide))
            exact Nat.lt_trans (log_4000 h3) (by decide)
          · refine ⟨_, eD, ?_, (fun b' o' e' => ?_), ?_⟩
            · rw [List.length_map, tabI_len, sizeLine_eq]
              omega
            · rw [upd_ne (ne_of_none e' hD)]
              exact s2 _ _ e'
            · rw [upd_same, tabI_snoc, List.map_append]
              show _ = some (HO.lst (_ ++ [V.int (g i)]))
              simp only [g, hc]
      · intro D H2 hD ⟨s2, eD⟩
        rw [List.length_map, n1] at eD
        refine ⟨_, rfl, (by show 2 ≤ sizeLine; decide), fun r nr => ?_⟩
        have s3 : Same H2 (upd H2 r (HO.tup [V.ref D, V.int (b : Int)])) := same_upd nr
        refine q r D _ b _ ((ss.trans s2).trans s3) upd_same (s3 _ _ eD) b0 b156 (tabI_len _ _) (fun i => ?_) (fun i => ?_)
        · rw [ci_tab]
          by_cases hi : i < a.length
          · rw [if_pos hi]
            exact over_one (dv i hi)
          · rw [if_neg hi, cf_ge (by omega), Rat.zero_mul]
            rfl
        · rw [ci_tab]
          by_cases hi : i < a.length
          · rw [if_pos hi]
            exact hg i hi
          · rw [if_neg hi]
            exact Nat.zero_le _
end

end Vf

set_option maxRecDepth 100000
set_option maxHeartbeats 8000000
namespace Vf
open PySem PySem.Spec PyProof.Rows L2
open LamX (ExtN Tabs TabS)
/-- a law's body, nothing leaves it, its own code object known -/
theorem fnG_of1 {P : Program} {w : World} {K : PySem.W.Frag} {mg : Str → Option Value} {base : Heap} {x qual : Str} {st : Stmt} {f : Addr} {fd : FuncData} {N ps : List Str} {k : Nat} {sp : Sp} (F : Fun K x qual st f fd) (S : FnScope N ps (defScope st))
    (ar : ∀ vs H Q E, sp vs H Q E → vs.length = ps.length)
    (body : ∀ (cdv : Value) (A : Around) (out : List Env) (s : Shared) (H : Hp) (vs : List V) (Q : VK) (E : XK), A.guards = some [] → Room k (A.deeper (envOfC qual (defScope st) s.heap.objs.size f cdv)) → fd.code = cdv → sp vs H Q E →
      ∃ t, PSs (cxOf CX0 P w K mg base N qual (defScope st) f cdv A out s H E).nox (defBody st) t ∧ t { nx := fun _ H' => Q .non H', rt := Q } (start N vs) H) : FnG P w K mg base CX0 (k + 1) f fd ps sp := by
  obtain ⟨oc, od, kV, doc, pm, an, cdv, ct, osl, e, lk, hcd⟩ := F.ex
  subst e
  refine ⟨ar, fun {A out s H args us vs Q E} hgu hr e0 hb r h => LamX.run_ofS lk hcd S hr e0 hb r (ar _ _ _ _ h) fun hr' => ?_⟩
  obtain ⟨t, z, q⟩ := body cdv A out s H vs Q E hgu hr' rfl h
  exact ⟨t, z.nox, q⟩
/-- the class of polynomials with its defs -/
structure PoM (P : Program) (w : World) (K : PySem.W.Frag) (mg : Str → Option Value) (base : Heap) (CP CR : Addr) where
  C : PoC K mg CP
  fI : Addr
  dI : FuncData
  mkI : Mk K CP fI
  bI : Binds K dI ["self", "numbers"] []
  okI : FnOk P w K mg base (L2.CX P w) 5 fI dI ["self", "numbers"] (spPolyI K CP CR)
  fE : Addr
  dE : FuncData
  aE : PySem.W.findIn K (.ref CP) "__eq__" = some (some (.ref fE))
  nE : PySem.W.isFn K (.ref fE) = true
  bE : Binds K dE ["self", "other"] []
  okE : FnOk P w K mg base CX0 1 fE dE ["self", "other"] (spPolyE K CP)
theorem rNe_no {x y : Str} {H : Hp} {B : Bool → Hp → Prop} (h : x = y) (g : B false H) : rNe (.str x) (.str y) H (fun v H' => ∃ k, v = V.bl k ∧ B k H') := by
  subst h
  exact ⟨rfl, false, by rw [decide_eq_true rfl]; rfl, g⟩
theorem rNe_int {x y : Int} {H : Hp} {B : Bool → Hp → Prop} (g : x = y → B false H) (h : x ≠ y → B true H) : rNe (.int x) (.int y) H (fun v H' => ∃ k, v = V.bl k ∧ B k H') := by
  by_cases e : x = y
  · exact ⟨rfl, false, by rw [decide_eq_true (by rw [e])]; rfl, g e⟩
  · exact ⟨rfl, true, by rw [decide_eq_false (fun z => e (V.int.inj z))]; rfl, h e⟩
theorem rNe_bl {x y : Bool} {H : Hp} {B : Bool → Hp → Prop} (e : x = y) (g : B false H) : rNe (.bl x) (.bl y) H (fun v H' => ∃ k, v = V.bl k ∧ B k H') := by
  subst e
  exact ⟨rfl, false, by rw [decide_eq_true rfl]; rfl, g⟩
theorem qual_eq {P : Program} {w : World} {K : PySem.W.Frag} {mg : Str → Option Value} {base : Heap} {N : List Str} {qual : Str} {sc : Scope} {f : Addr} {cd : Value} {A : Around} {o : List Env} {s : Shared} {H : Hp} {E : XK} {CT : CXT} : (cxOf CT P w K mg base N qual sc f cd A o s H E).nox.env.qual = qual ++ ".<locals>." := rfl
/-- the table of the law's own code objects -/
def Ts (Pt : Addr) : List (Addr × Str) := [(Pt, (Str.ofString "law" ++ Str.ofString ".<locals>.") ++ Str.ofString "<lambda>")]
theorem ts_mem (Pt : Addr) : (Pt, (Str.ofString "law" ++ Str.ofString ".<locals>.") ++ Str.ofString "<lambda>") ∈ Ts Pt := List.mem_singleton.mpr rfl
theorem ts_only (Pt : Addr) : ∀ p ∈ Ts Pt, p.1 = Pt → p.2 = (Str.ofString "law" ++ Str.ofString ".<locals>.") ++ Str.ofString "<lambda>" := fun p hp _ => by rw [List.mem_singleton.mp hp]
theorem seq_kp {K : PySem.W.Frag} {p a : Addr} {H H' : Hp} {xs : List V} (n : a ≠ p) (k : Kp p H H') : (SqL K H a xs → SqL K H' a xs) ∧ (SqT K H a xs → SqT K H' a xs) := by
  refine ⟨fun h => ?_, fun h => ?_⟩
  · rcases h with (h | ⟨o, h⟩) | h
    · exact Or.inl (Or.inl (k a _ n h))
    · exact Or.inl (Or.inr ⟨o, k a _ n h⟩)
    · exact Or.inr h
  · rcases h with (h | ⟨o, h⟩) | h
    · exact Or.inl (Or.inl (k a _ n h))
    · exact Or.inl (Or.inr ⟨o, k a _ n h⟩)
    · exact Or.inr h
/-- the law's promise -/
def spLaw (K : PySem.W.Frag) (Pt : Addr) : Sp := fun vs H Q _ => ∃ (a : Addr) (ns : List Int), vs = [.ref a] ∧ SqL K H a (ns.map V.int) ∧ ns.length ≤ 63 ∧ H Pt = some (.tbl #[]) ∧ ∀ H', Q (.bl true) H'
/-- a method of the class that raises nothing -/
structure Me (P : Program) (w : World) (K : PySem.W.Frag) (mg : Str → Option Value) (base : Heap) (CP : Addr) (x : Str) (k : Nat) (ps : List Str) (sp : Sp) where
  f : Addr
  fd : FuncData
  m : Meth K CP x f
  b : Binds K fd ps []
  ok : FnOk P w K mg base CX0 k f fd ps sp
/-- changes at lists and at the pen alone -/
theorem Pen.put {H H' : Hp} {p l b : Addr} {B : Int} (h : Pen H p l B) (k : ∀ c u, c ≠ b → H c = some u → H' c = some u) (h1 : b ≠ p) (h2 : b ≠ l) : Pen H' p l B := by
  obtain ⟨ns, a, d, c, f, ⟨g1, g2, g3⟩, hc⟩ := h
  exact ⟨ns, a, d, c, f, ⟨k _ _ h1.symm g1, k _ _ h2.symm g2, g3⟩, hc⟩
theorem Pen.lc {H : Hp} {p l : Addr} {B : Int} (h : Pen H p l B) : ∃ xs, H l = some (.lst xs) := by
  obtain ⟨ns, a, d, c, f, ⟨g1, g2, g3⟩, hc⟩ := h
  exact ⟨_, g2⟩
theorem Pen.ne_new {H : Hp} {p l b : Addr} {B : Int} (h : Pen H p l B) (n : H b = none) : b ≠ p ∧ b ≠ l := by
  obtain ⟨o, e⟩ := h.there
  obtain ⟨xs, e2⟩ := h.lc
  exact ⟨(ne_of_none e n).symm, (ne_of_none e2 n).symm⟩
theorem tabs_lst {T : List (Addr × Str)} {H H' : Hp} {b : Addr} {xs : List V} (hb : H b = some (.lst xs)) (k : ∀ c u, c ≠ b → H c = some u → H' c = some u) (t : Tabs T H) : Tabs T H' := fun y hy => by
  obtain ⟨ps, h1, h2, h3⟩ := t y hy
  refine ⟨ps, k _ _ (ne_of h1 hb (by intro z; cases z)) h1, h2, fun pos cv hc => ?_⟩
  obtain ⟨c', e1, e2⟩ := h3 pos cv hc
  exact ⟨c', e1, k _ _ (ne_of e2 hb (by intro z; unfold LamX.CodeO at z; cases z)) e2⟩
theorem upd_away {H : Hp} {b : Addr} {o : HO} : ∀ c u, c ≠ b → H c = some u → upd H b o c = some u := fun c u h e => by rw [upd_ne h]; exact e
theorem Tups.lst {H H' : Hp} {b : Addr} {xs : List V} (hb : H b = some (.lst xs)) (k : ∀ c u, c ≠ b → H c = some u → H' c = some u) {as : List Addr} {ps : List (Int × Int)} (h : Tups H as ps) : Tups H' as ps :=
  h.imp fun a p z => k _ _ (ne_of z hb (by intro z; cases z)) z
theorem Tups.kp {H H' : Hp} {p l : Addr} {B : Int} (hP : Pen H p l B) (k : Kp p H H') {as : List Addr} {ps : List (Int × Int)} (h : Tups H as ps) : Tups H' as ps := by
  obtain ⟨ns, a, d, c, f, ⟨g1, g2, g3⟩, hc⟩ := hP
  exact h.imp fun a p z => k _ _ (ne_of z g1 (by intro z; cases z)) z
theorem Tups.rep {H : Hp} {a : Addr} {p : Int × Int} (h : H a = some (.tup [.int p.1, .int p.2])) : ∀ n : Nat, Tups H (List.replicate n a) (List.replicate n p)
  | 0 => .nil
  | n + 1 => .cons h (Tups.rep h n)
theorem flat_rep (n : Nat) (a : Addr) : (List.replicate n [V.ref a]).flatten = (List.replicate n a).map V.ref := by
  rw [List.flatten_replicate_singleton, List.map_replicate]
theorem cut_to (xs : List V) (k : Nat) : cutV xs none (some (k : Int)) = xs.take k := by
  unfold cutV
  rw [HT.sIx_none, HT.sIx_nat, Nat.sub_zero, List.drop_zero]
  by_cases h : k ≤ xs.length
  · rw [Nat.min_eq_left h]
  · rw [Nat.min_eq_right (by omega), List.take_of_length_le (by omega), List.take_of_length_le (by omega)]
/-- what ratios have that are drawn -/
structure RatOk (p : Int × Int) : Prop where
  lw : Low p.1 p.2
  zt : S80 p.1
  zb : S80 p.2
theorem lowP_id {p : Int × Int} (h : RatOk p) : lowP p = p := low_id h.lw
theorem lowP_ids : ∀ {ps : List (Int × Int)}, (∀ p ∈ ps, RatOk p) → ps.map lowP = ps
  | [], _ => rfl
  | p :: ps, h => by
    rw [List.map_cons, lowP_id (h p (List.mem_cons_self ..)), lowP_ids fun x hx => h x (List.mem_cons_of_mem _ hx)]
theorem ratOk_big {p : Int × Int} (h : RatOk p) : p.2.natAbs < 2 ^ big := Nat.lt_trans h.zb (Nat.pow_lt_pow_right (by decide) (by decide))
theorem parts_pairD {p : Int × Int} (h : 0 < p.2) : partsD (pairD p) = some p := by
  obtain ⟨t, b⟩ := p
  show (if 0 < b then some (t, b) else none) = some (t, b)
  rw [if_pos h]
def pairL (p : Int × Int) : PyData := .list [.int p.1, .int p.2]
theorem parts_pairL {p : Int × Int} (h : 0 < p.2) : partsD (pairL p) = some p := by
  obtain ⟨t, b⟩ := p
  show (if 0 < b then some (t, b) else none) = some (t, b)
  rw [if_pos h]
theorem mapM_of {f : Int × Int → PyData} : ∀ {ps : List (Int × Int)}, (∀ p ∈ ps, partsD (f p) = some p) → (ps.map f).mapM partsD = some ps
  | [], _ => by rw [List.map_nil, List.mapM_nil]; rfl
  | p :: ps, h => by
    rw [List.map_cons, List.mapM_cons, h p (List.mem_cons_self ..), mapM_of fun x hx => h x (List.mem_cons_of_mem _ hx)]
    rfl
theorem mapM_snoc : ∀ {ds : List PyData} {ps : List (Int × Int)} {d : PyData} {p : Int × Int}, ds.mapM partsD = some ps → partsD d = some p → (ds ++ [d]).mapM partsD = some (ps ++ [p])
  | [], ps, d, p, h, e => by
    rw [List.mapM_nil] at h
    cases h
    rw [List.nil_append, List.mapM_cons, e, List.mapM_nil]
    rfl
  | d0 :: ds, ps, d, p, h, e => by
    rw [List.mapM_cons] at h
    cases e0 : partsD d0 with
    | none => rw [e0] at h; cases h
    | some p0 =>
      rw [e0] at h
      cases e1 : ds.mapM partsD with
      | none => rw [e1] at h; cases h
      | some ps1 =>
        rw [e1] at h
        cases h
        rw [List.cons_append, List.mapM_cons, e0, mapM_snoc e1 e]
        rfl
theorem mapM_odd {ds : List PyData} {d : PyData} (h : d ∈ ds) (e : partsD d = none) : ds.mapM partsD = none := by
  have z := mapM_all ds
  have a : (ds.map fun d => (partsD d).isSome).all id = false := by
    rw [List.all_eq_false]
    exact ⟨_, List.mem_map.mpr ⟨d, h, rfl⟩, by rw [e]; decide⟩
  rw [a] at z
  cases hm : ds.mapM partsD with
  | none => rfl
  | some ps => rw [hm] at z; cases z
theorem gd_pairD {p : Int × Int} (h : RatOk p) : Gd (pairD p) :=
  (gd_pair (Nat.lt_trans h.zt (Nat.pow_lt_pow_right (by decide) (by decide))) (Nat.lt_trans h.zb (Nat.pow_lt_pow_right (by decide) (by decide)))).2
theorem small_row {rs : List (Int × Int)} (hl : rs.length ≤ 100) (h : ∀ p ∈ rs, RatOk p) : small (.tuple (rs.map pairD)) :=
  (small_of_gd (by rw [List.length_map]; exact hl) fun d hd => by
    obtain ⟨p, hp, e⟩ := List.mem_map.mp hd
    rw [← e]
    exact gd_pairD (h p hp)).2
/-- ratios as they are passed -/
inductive Giv : List PyData → List (Int × Int) → Prop
  | nil : Giv [] []
  | cons {d : PyData} {p : Int × Int} {k : Int} {ds : List PyData} {ps : List (Int × Int)} : partsD d = some (p.1 * k, p.2 * k) → 0 < k → k ≤ 3 → Gd d → Giv ds ps → Giv (d :: ds) (p :: ps)
theorem Giv.len : ∀ {ds : List PyData} {ps : List (Int × Int)}, Giv ds ps → ds.length = ps.length
  | _, _, .nil => rfl
  | _, _, .cons _ _ _ _ t => congrArg (· + 1) t.len
theorem Giv.snoc : ∀ {ds : List PyData} {ps : List (Int × Int)} {d : PyData} {p : Int × Int} {k : Int}, Giv ds ps → partsD d = some (p.1 * k, p.2 * k) → 0 < k → k ≤ 3 → Gd d → Giv (ds ++ [d]) (ps ++ [p])
  | _, _, _, _, _, .nil, h1, h2, h3, h4 => .cons h1 h2 h3 h4 .nil
  | _, _, _, _, _, .cons g1 g2 g3 g4 t, h1, h2, h3, h4 => .cons g1 g2 g3 g4 (t.snoc h1 h2 h3 h4)
theorem Giv.row : ∀ {ds : List PyData} {ps : List (Int × Int)}, Giv ds ps → (∀ p ∈ ps, RatOk p) → ∃ qs, ds.mapM partsD = some qs ∧ qs.map lowP = ps ∧ ∀ q ∈ qs, q.2.natAbs < 2 ^ big
  | _, _, .nil, _ => ⟨[], by rw [List.mapM_nil]; rfl, rfl, fun q h => by cases h⟩
  | _, _, .cons (p := p) (k := k) h1 h2 h3 h4 t, h => by
    obtain ⟨qs, e1, e2, e3⟩ := t.row fun x hx => h x (List.mem_cons_of_mem _ hx)
    have ok := h p (List.mem_cons_self ..)
    refine ⟨(p.1 * k, p.2 * k) :: qs, ?_, ?_, ?_⟩
    · rw [List.mapM_cons, h1, e1]
      rfl
    · rw [List.map_cons, e2]
      congr 1
      exact low_back ok.lw h2
    · intro q hq
      rcases List.mem_cons.mp hq with z | z
      · rw [z]
        exact Nat.lt_trans (s80_k ok.zb h2 h3) (Nat.pow_lt_pow_right (by decide) (by decide))
      · exact e3 q z
theorem parts_plain {d : PyData} {p : Int × Int} (h : partsD d = some p) : d.plain = true ∧ d.depth ≤ 1 := by
  cases d with
  | int i => exact ⟨rfl, by simp [PyData.depth]⟩
  | list ds =>
    have z := (pair_pos (ds := ds) (t := p.1) (b := p.2) h).1
    rw [z]
    exact ⟨by simp [PyData.plain, PyData.plainAll], by simp [PyData.depth, PyData.depthAll]⟩
  | tuple ds =>
    have z := (pair_pos (ds := ds) (t := p.1) (b := p.2) h).1
    rw [z]
    exact ⟨by simp [PyData.plain, PyData.plainAll], by simp [PyData.depth, PyData.depthAll]⟩
  | _ => cases h
theorem Giv.plain : ∀ {ds : List PyData} {ps : List (Int × Int)}, Giv ds ps → PyData.plainAll ds = true ∧ PyData.depthAll ds ≤ 1
  | _, _, .nil => ⟨by simp only [PyData.plainAll], by simp only [PyData.depthAll]; omega⟩
  | _, _, .cons h1 _ _ _ t => by
    obtain ⟨a, b⟩ := parts_plain h1
    obtain ⟨c, d⟩ := t.plain
    simp only [PyData.plainAll, PyData.depthAll]
    exact ⟨by rw [a, c]; rfl, Nat.max_le.mpr ⟨b, d⟩⟩
theorem Giv.gd : ∀ {ds : List PyData} {ps : List (Int × Int)}, Giv ds ps → ∀ d ∈ ds, Gd d
  | _, _, .nil, d, h => by cases h
  | _, _, .cons _ _ _ h4 t, d, h => by
    rcases List.mem_cons.mp h with z | z
    · rw [z]; exact h4
    · exact t.gd d z
theorem eqv_nilL : ∀ ds : List PyData, PyData.eqv (.list ds) (.list []) = decide (ds = [])
  | [] => by simp [PyData.eqv, PyData.eqvAll]
  | d :: ds => by simp [PyData.eqv, PyData.eqvAll]
theorem Dts.setAt {K : PySem.W.Frag} {H : Hp} : ∀ {vs : List V} {ds : List PyData} (i : Nat) {v : V} {d : PyData}, Dts K H vs ds → Dt K H v d → Dts K H (vs.set i v) (ds.set i d)
  | _, _, _, _, _, .nil, _ => .nil
  | _, _, 0, _, _, .cons _ t, h => .cons h t
  | _, _, i + 1, _, _, .cons a t, h => .cons a (t.setAt i h)
/-- lists of two whole numbers each -/
inductive Lsts (H : Hp) : List Addr → List (Int × Int) → Prop
  | nil : Lsts H [] []
  | cons {a : Addr} {as : List Addr} {p : Int × Int} {ps : List (Int × Int)} : H a = some (.lst [.int p.1, .int p.2]) → Lsts H as ps → Lsts H (a :: as) (p :: ps)
theorem Lsts.len {H : Hp} : ∀ {as : List Addr} {ps : List (Int × Int)}, Lsts H as ps → as.length = ps.length
  | _, _, .nil => rfl
  | _, _, .cons _ t => congrArg (· + 1) t.len
theorem Lsts.imp {H H' : Hp} : ∀ {as : List Addr} {ps : List (Int × Int)}, (∀ a ∈ as, ∀ (p : Int × Int), H a = some (.lst [.int p.1, .int p.2]) → H' a = some (.lst [.int p.1, .int p.2])) → Lsts H as ps → Lsts H' as ps
  | _, _, _, .nil => .nil
  | _, _, e, .cons h t => .cons (e _ (List.mem_cons_self ..) _ h) (t.imp fun a ha => e a (List.mem_cons_of_mem _ ha))
theorem Lsts.snoc {H : Hp} : ∀ {as : List Addr} {ps : List (Int × Int)} {a : Addr} {p : Int × Int}, Lsts H as ps → H a = some (.lst [.int p.1, .int p.2]) → Lsts H (as ++ [a]) (ps ++ [p])
  | _, _, _, _, .nil, h => .cons h .nil
  | _, _, _, _, .cons h t, h2 => .cons h (t.snoc h2)
theorem Lsts.dts {K : PySem.W.Frag} {H : Hp} : ∀ {as : List Addr} {ps : List (Int × Int)}, Lsts H as ps → Dts K H (as.map V.ref) (ps.map pairL)
  | _, _, .nil => .nil
  | _, _, .cons h t => .cons (.lst (SqL.of h) (.cons (.int _) (.cons (.int _) .nil))) t.dts
theorem Lsts.mem {H : Hp} : ∀ {as : List Addr} {ps : List (Int × Int)}, Lsts H as ps → ∀ a ∈ as, ∃ x y : Int, H a = some (.lst [.int x, .int y])
  | _, _, .nil, a, h => by cases h
  | _, _, .cons h t, a, hm => by
    rcases List.mem_cons.mp hm with z | z
    · rw [z]; exact ⟨_, _, h⟩
    · exact t.mem a z

end Vf

set_option maxRecDepth 100000
set_option maxHeartbeats 8000000
namespace Vf
open PySem PySem.Spec PyProof.Rows L2
/-! ### Polys out of rows -/
def RW (H : Hp) (l : Addr) (ps : List (Int × Int)) : Prop := ∃ as, H l = some (.lst (as.map V.ref)) ∧ Tups H as ps
def PolyQ (K : PySem.W.Frag) (CP : Addr) (H : Hp) (a : Addr) (qs : List Rat) : Prop := PolyAt K CP H a (qs.map pq)
theorem PolyQ.same {K : PySem.W.Frag} {CP : Addr} {H H' : Hp} {a : Addr} {qs : List Rat} (h : PolyQ K CP H a qs) (s : Same H H') : PolyQ K CP H' a qs := PolyAt.same h s
/-- what Poly(row) comes to -/
theorem poly_row {K : PySem.W.Frag} {CP CR : Addr} {H : Hp} {l : Addr} {ps : List (Int × Int)} {qs : List Rat} {Qd : Addr → Hp → Prop} {E : XK} (h : RW H l ps) (hl : ps.length ≤ 1000) (hp : ∀ p ∈ ps, 0 < p.2 ∧ p.2.natAbs < 2 ^ big) (hq : ps.map lowP = qs.map pq)
    (k : ∀ (x : Addr) (H' : Hp), Same H H' → H x = none → PolyQ K CP H' x (stripQ qs) → Qd x H') :
    ∀ x dx, H x = none → H dx = none → dx ≠ x → spPolyI K CP CR (.ref x :: ([V.ref l] ++ [])) (upd (upd H dx (.own x)) x (.ins CP dx [])) (fun w H2 => w = .non ∧ Qd x H2) E := by
  obtain ⟨as, e, t⟩ := h
  have rd : rowD (.list (ps.map pairD)) = some ps := mapM_of fun p h => parts_pairD (hp p h).1
  refine poly_made (d := .list (ps.map pairD)) (.lst (SqL.of e) t.dts) (fun ds' h => ?_) (fun ps' h => ?_) (fun z => by rw [rd] at z; cases z)
  · cases h
    rw [List.length_map]
    exact hl
  rw [rd] at h
  cases h
  refine ⟨fun p h => (hp p h).2, fun x H' s nx made => k x H' s nx ?_⟩
  rw [hq, strip_map] at made
  exact made
theorem poly_rl {K : PySem.W.Frag} {CP CR : Addr} {H : Hp} {l : Addr} {qs : List Rat} {Qd : Addr → Hp → Prop} {E : XK} (h : RL H l qs) (hl : qs.length ≤ 1000) (hz : ∀ q ∈ qs, q.den < 2 ^ big)
    (k : ∀ (x : Addr) (H' : Hp), Same H H' → H x = none → PolyQ K CP H' x (stripQ qs) → Qd x H') :
    ∀ x dx, H x = none → H dx = none → dx ≠ x → spPolyI K CP CR (.ref x :: ([V.ref l] ++ [])) (upd (upd H dx (.own x)) x (.ins CP dx [])) (fun w H2 => w = .non ∧ Qd x H2) E := by
  refine poly_row (ps := qs.map pq) h (by rw [List.length_map]; exact hl) (fun p hp => ?_) ?_ k
  · obtain ⟨q, hq, rfl⟩ := List.mem_map.mp hp
    have := q.den_pos
    refine ⟨by show (0 : Int) < (q.den : Int); omega, ?_⟩
    show (q.den : Int).natAbs < _
    rw [Int.natAbs_natCast]
    exact hz q hq
  · rw [List.map_map]
    refine List.map_congr_left fun q _ => ?_
    exact low_id (pq_low q)
def pmQ (a b : List Rat) : List Rat := if a = [] ∨ b = [] then [] else tab (a.length + b.length - 1) (pc a b)
theorem pmQ_strip (a b : List Rat) : stripQ (pmQ a b) = stripQ (pmul a b) := by
  refine stripQ_ext fun i => ?_
  rw [cf_pmul]
  unfold pmQ
  split
  · rename_i h
    rw [cf_nil]
    symm
    unfold pc
    refine sm_zero fun j _ => ?_
    rcases h with h | h <;> rw [h, cf_nil]
    · exact Rat.zero_mul _
    · exact Rat.mul_zero _
  · rw [cf_tab]
    split
    · rfl
    · rw [pc_zero (by omega)]
def spProds (K : PySem.W.Frag) : Sp := fun vs H Q _ => ∃ (l1 l2 : Addr) (as bs : List Addr) (a b : List Rat), vs = [.ref l1, .ref l2] ∧ SqT K H l1 (as.map V.ref) ∧ Tups H as (a.map pq) ∧ SqT K H l2 (bs.map V.ref) ∧ Tups H bs (b.map pq) ∧ a.length ≤ 13 ∧ b.length ≤ 13 ∧ (∀ i, Sm (cf a i)) ∧ (∀ i, Sm (cf b i)) ∧
  ∀ (l : Addr) (ps : List (Int × Int)) (H' : Hp), Same H H' → RW H' l ps → ps.length ≤ 1000 → (∀ p ∈ ps, 0 < p.2 ∧ p.2.natAbs < 2 ^ big) → ps.map lowP = (pmQ a b).map pq → Q (.ref l) H'
section
variable {P : Program} {w : World} {K : PySem.W.Frag} {mg : Str → Option Value} {base : Heap} {CP CR CN : Addr}
abbrev sProds : Stmt := topS 30
theorem scProds : FnScope ["one", "other", "row", "bottom", "other_row", "other_bottom", "below", "top"] ["one", "other"] (defScope sProds) := ⟨rfl, rfl, rfl, by decide +kernel, rfl, by decide +kernel, by decide +kernel⟩
end

end Vf

set_option maxRecDepth 100000
set_option maxHeartbeats 8000000
namespace Vf
open PySem PySem.Spec PyProof.Rows L2
/-- a small drawn ratio -/
def spRatio : Sp := fun vs H Q _ => ∃ (p lc : Addr) (B m : Int), vs = [.ref p, .int m] ∧ 1 ≤ m ∧ m ≤ 1000000000 ∧ Pen H p lc B ∧ B ≤ 10000000 ∧
  ∀ (r : Addr) (t b : Int) (H' : Hp), Pen H' p lc (B + 3) → Kp p H H' → H' r = some (.tup [.int t, .int b]) → Low t b → (t.natAbs : Int) ≤ m * 99 → b.natAbs ≤ 99 → Q (.ref r) H'
section
variable {P : Program} {w : World} {K : PySem.W.Frag} {mg : Str → Option Value} {base : Heap} {CN : Addr}
abbrev sLRatio : Stmt := topS 56
theorem scLRatio : FnScope ["_law_pen_here", "_law_most", "_law_bottom"] ["_law_pen_here", "_law_most"] (defScope sLRatio) := ⟨rfl, rfl, rfl, by decide +kernel, rfl, by decide +kernel, by decide +kernel⟩
theorem small_mulW {x y : Int} (h1 : x.natAbs < 2 ^ 400) (h2 : y.natAbs < 2 ^ 400) : CMulW x y := wide_mul h1 h2 (by decide) (by decide) (by decide)
theorem ok_lratio {f : Addr} {fd : FuncData} (F : Fun K "_law_ratio" "_law_ratio" sLRatio f fd) (Gd_ : Df P w K mg base "_law_draw" 1 ["_law_pen_here", "_law_many"] spDraw) (Gp : Df P w K mg base "_law_pick" 2 ["_law_pen_here", "_law_some"] spPick) (Gq : Df P w K mg base "_law_q" 2 ["_law_top", "_law_bottom"] spQ) :
    FnOk P w K mg base CX0 3 f fd ["_law_pen_here", "_law_most"] spRatio := by
  refine F.ok scLRatio (fun vs H Q E h => ?_) (fun cdv A outer s H vs Q E hr h => ?_)
  · obtain ⟨p, lc, B, m, rfl, _⟩ := h
    rfl
  · obtain ⟨p, lc, B, m, rfl, hm1, hm9, hP, hB, q⟩ := h
    refine ⟨_, (pss_cons (ps_set (i := 2) scLRatio.nd rfl (Or.inl rfl) (pe_call Gp.ok (hr.mono (by decide)) rfl Gp.m Gp.kp Gp.b .nil pass0 (pa_cons (pv 0) (pa_cons (pe_lst (pa_cons pe_int (pa_cons pe_int (pa_cons pe_int (pa_cons pe_int (pa_cons pe_int (pa_cons pe_int (pa_cons (pe_op op_add pe_int (pe_call Gd_.ok (hr.mono (by decide)) rfl Gd_.m Gd_.kp Gd_.b .nil pass0 (pa_cons (pv 0) (pa_cons pe_int pa_nil)))) pa_nil)))))))) pa_nil))))
      (pss_one (ps_ret (pe_call Gq.ok (hr.mono (by decide)) rfl Gq.m Gq.kp Gq.b .nil pass0 (pa_cons (pe_op op_sub (pe_call Gd_.ok (hr.mono (by decide)) rfl Gd_.m Gd_.kp Gd_.b .nil pass0 (pa_cons (pv 0) (pa_cons (pe_op op_add (pe_op op_mulW (pe_op op_mulW pe_int (pv 1)) (pv 2)) pe_int) pa_nil))) (pe_op op_mulW (pv 1) (pv 2))) (pa_cons (pv 2) pa_nil)))))), ?_⟩
    refine ⟨_, rfl, _, rfl, p, lc, B, 99, rfl, hP, by omega, by decide, by decide, fun z H1 z0 z1 hP1 k1 => ⟨_, _, rfl, rfl, ?_⟩⟩
    refine ⟨(by show 7 ≤ sizeLine; decide), fun l nl => ?_⟩
    have el : upd H1 l (HO.lst [V.int 1, V.int 1, V.int 2, V.int 3, V.int 7, V.int 10, V.int (1 + z)]) l = some (HO.lst [V.int 1, V.int 1, V.int 2, V.int 3, V.int 7, V.int 10, V.int (1 + z)]) := upd_same
    have sl : Same H1 (upd H1 l (HO.lst [V.int 1, V.int 1, V.int 2, V.int 3, V.int 7, V.int 10, V.int (1 + z)])) := same_upd nl
    have lp : l ≠ p := by
      obtain ⟨o, e⟩ := hP1.there
      exact (ne_of_none e nl).symm
    generalize upd H1 l (HO.lst [V.int 1, V.int 1, V.int 2, V.int 3, V.int 7, V.int 10, V.int (1 + z)]) = H2 at el sl ⊢
    have hP2 := hP1.same sl
    refine ⟨p, lc, l, _, _, rfl, hP2, by omega, el, lp, (by show 0 < 7; decide), (by show 7 < 1000000; decide), fun x H3 hx hP3 k3 => ?_⟩
    obtain ⟨b, rfl, b0, b1⟩ : ∃ b : Int, x = .int b ∧ 1 ≤ b ∧ b ≤ 99 := by
      simp only [List.mem_cons, List.not_mem_nil, or_false] at hx
      rcases hx with h | h | h | h | h | h | h <;> exact ⟨_, h, by omega, by omega⟩
    have sz : ∀ {i : Int}, 0 ≤ i → i ≤ 1000000000000 → i.natAbs < 2 ^ 400 := fun {i} h0 h1 => Nat.lt_trans (show i.natAbs < 2 ^ 40 by omega) (by decide +kernel)
    have k13 : Kp p H H3 := (k1.trans (Kp.of sl)).trans k3
    have hmb : m * b ≤ 1000000000 * 99 := Int.mul_le_mul hm9 b1 (by omega) (by decide)
    have hmb0 : 0 < m * b := Int.mul_pos (by omega) (by omega)
    have e2 : 2 * m * b = 2 * (m * b) := Int.mul_assoc _ _ _
    refine ⟨_, rfl, _, rfl, _, _, rfl, rfl, small_mulW (sz (by decide) (by decide)) (sz (by omega) (by omega)), _, rfl, _, _, rfl, rfl, small_mulW (sz (by omega) (by omega)) (sz (by omega) (by omega)), _, _, rfl, rfl, p, lc, _, _, rfl, hP3, by omega, by omega, by omega, fun y H4 y0 y1 hP4 k4 => ?_⟩
    refine ⟨_, rfl, _, rfl, _, _, rfl, rfl, small_mulW (sz (by omega) (by omega)) (sz (by omega) (by omega)), _, _, rfl, rfl, _, rfl, ?_⟩
    have hb : b ≠ 0 := by omega
    have lt : (2 : Nat) ^ 40 < 2 ^ big := Nat.pow_lt_pow_right (by decide) (by decide)
    refine ⟨_, _, rfl, hb, Nat.lt_trans (show (y - m * b).natAbs < 2 ^ 40 by omega) lt, Nat.lt_trans (show b.natAbs < 2 ^ 40 by omega) lt, fun r H5 s5 n5 e5 => ?_⟩
    obtain ⟨z1, z2⟩ := low_size (t := y - m * b) hb
    have mb : m * b ≤ m * 99 := Int.mul_le_mul_of_nonneg_left b1 (by omega)
    exact q r _ _ H5 ((hP4.more (by omega)).same s5) ((k13.trans k4).trans (Kp.of s5)) e5 (low_is hb) (by omega) (by omega)
end

/-! ### drawn polynomials -/
def SmD (m : Int) (q : Rat) : Prop := (q.num.natAbs : Int) ≤ m * 99 ∧ q.den ≤ 99
theorem RL.kp {H H' : Hp} {p lc l : Addr} {B : Int} {qs : List Rat} (h : RL H l qs) (hP : Pen H p lc B) (k : Kp p H H') : RL H' l qs := by
  obtain ⟨as, e, t⟩ := h
  refine ⟨as, k _ _ ?_ e, t.kp hP k⟩
  obtain ⟨_, _, _, _, _, g1, _⟩ := hP
  exact ne_of e g1.1 (by intro z; cases z)
theorem RL.ne {H : Hp} {p lc l : Addr} {B : Int} {qs : List Rat} (h : RL H l qs) (hP : Pen H p lc B) : l ≠ p := by
  obtain ⟨as, e, t⟩ := h
  obtain ⟨_, _, _, _, _, g1, _⟩ := hP
  exact ne_of e g1.1 (by intro z; cases z)
theorem TR.kp {H H' : Hp} {p lc r : Addr} {B : Int} {q : Rat} (h : TR H r q) (hP : Pen H p lc B) (k : Kp p H H') : TR H' r q := by
  obtain ⟨_, _, _, _, _, g1, _⟩ := hP
  exact k _ _ (ne_of h g1.1 (by intro z; cases z)) h
theorem PolyQ.kp {K : PySem.W.Frag} {CP : Addr} {H H' : Hp} {a p l : Addr} {B : Int} {qs : List Rat} (h : PolyQ K CP H a qs) (hP : Pen H p l B) (k : Kp p H H') : PolyQ K CP H' a qs := PolyAt.kp h hP k
def spDrawn : Sp := fun vs H Q _ => ∃ (p lc : Addr) (B g m : Int), vs = [.ref p, .int g, .int m] ∧ Pen H p lc B ∧ B ≤ 1000000 ∧ 0 ≤ g ∧ g ≤ 12 ∧ 1 ≤ m ∧ m ≤ 1000000000 ∧
  ∀ (l : Addr) (qs : List Rat) (H' : Hp), Pen H' p lc (B + 100) → Kp p H H' → RL H' l qs → qs.length ≤ 13 → stripQ qs = qs → (∀ i, SmD m (cf qs i)) → Q (.ref l) H'
def spMade (K : PySem.W.Frag) (CP : Addr) : Sp := fun vs H Q _ => ∃ (p lc l : Addr) (B : Int) (a : List Rat), vs = [.ref p, .ref l] ∧ Pen H p lc B ∧ B ≤ 1000000 ∧ RL H l a ∧ a.length ≤ 13 ∧ stripQ a = a ∧ (∀ i, RatOk (pq (cf a i))) ∧
  ∀ (x : Addr) (H' : Hp), Pen H' p lc (B + 100) → Kp p H H' → PolyQ K CP H' x a → Q (.ref x) H'
theorem sm_s80 {q : Rat} (h : Sm q) : RatOk (pq q) := by
  refine ⟨pq_low q, Nat.lt_of_le_of_lt h.1 (Nat.pow_lt_pow_right (by decide) (by decide)), ?_⟩
  show (q.den : Int).natAbs < 2 ^ 1200
  rw [Int.natAbs_natCast]
  exact Nat.lt_of_le_of_lt h.2 (Nat.pow_lt_pow_right (by decide) (by decide))
theorem mem_cf {qs : List Rat} {q : Rat} (h : q ∈ qs) : ∃ i, q = cf qs i := by
  obtain ⟨i, hi, e⟩ := List.mem_iff_getElem.mp h
  exact ⟨i, by rw [cf_lt hi, e]⟩
theorem Dts.rep0 {K : PySem.W.Frag} {H : Hp} : ∀ n : Nat, Dts K H (List.replicate n (V.int 0)) (List.replicate n (PyData.int 0))
  | 0 => .nil
  | n + 1 => .cons (.int 0) (Dts.rep0 n)
theorem giv_rep0 {ds : List PyData} {ps : List (Int × Int)} (h : Giv ds ps) : ∀ n : Nat, Giv (ds ++ List.replicate n (PyData.int 0)) (ps ++ List.replicate n (0, 1))
  | 0 => by rw [List.replicate_zero, List.replicate_zero, List.append_nil, List.append_nil]; exact h
  | n + 1 => by
    rw [List.replicate_succ', List.replicate_succ', ← List.append_assoc, ← List.append_assoc]
    exact (giv_rep0 h n).snoc (k := 1) (p := (0, 1)) rfl (by decide) (by decide) (gd_int (by show (0 : Int).natAbs < _; exact Nat.pow_pos (by decide)))
section
variable {P : Program} {w : World} {K : PySem.W.Frag} {mg : Str → Option Value} {base : Heap} {CP CR CN : Addr}
abbrev sDrawn : Stmt := topS 64
abbrev sMade : Stmt := topS 63
theorem scDrawn : FnScope ["_law_pen_here", "_law_degree", "_law_most", "_law_k"] ["_law_pen_here", "_law_degree", "_law_most"] (defScope sDrawn) := ⟨rfl, rfl, rfl, by decide +kernel, rfl, by decide +kernel, by decide +kernel⟩
theorem ok_drawn {f : Addr} {fd : FuncData} (F : Fun K "_law_drawn" "_law_drawn" sDrawn f fd) (T : Bk mg) (Gd_ : Df P w K mg base "_law_draw" 1 ["_law_pen_here", "_law_many"] spDraw) (Gr : Df P w K mg base "_law_ratio" 3 ["_law_pen_here", "_law_most"] spRatio) (Gpoly : Df P w K mg base "_law_poly" 1 ["_law_numbers"] (spLPoly K)) : FnOk P w K mg base CX0 4 f fd ["_law_pen_here", "_law_degree", "_law_most"] spDrawn := by
  refine F.ok scDrawn (fun vs H Q E h => ?_) (fun cdv A outer s H vs Q E hr h => ?_)
  · obtain ⟨p, lc, B, g, m, rfl, _⟩ := h
    rfl
  · obtain ⟨p, lc, B, g, m, rfl, hP, hB, g0, g12, m1, m5, q⟩ := h
    refine ⟨_, (pss_one (ps_ret (pe_call Gpoly.ok (hr.mono (by decide)) rfl Gpoly.m Gpoly.kp Gpoly.b .nil pass0 (pa_cons (pe_lc (own := [("_law_k", 3)]) (g := gName 3) (tt := tYes) rfl scDrawn.nd (pi_range1 (by rfl) T.range (pa_cons (pe_op op_add pe_int (pe_call Gd_.ok (hr.mono (by decide)) rfl Gd_.m Gd_.kp Gd_.b .nil pass0 (pa_cons (pv 0) (pa_cons (pe_op op_add (pv 1) pe_int) pa_nil)))) pa_nil)) (blkOk_by (N := ["_law_pen_here", "_law_degree", "_law_most", "_law_k"]) (sc := defScope sDrawn) (by decide +kernel)) (fun _ _ _ _ _ => pg_name (i := 3) scDrawn.nd rfl (Or.inl rfl)) (fun _ _ _ _ _ => pts_nil)
      (fun _ _ _ _ _ => (pe_call Gr.ok (hr.mono (by decide)) rfl Gr.m Gr.kp Gr.b .nil pass0 (pa_cons (pv 0) (pa_cons (pv 2) pa_nil))))) pa_nil)))), ?_⟩
    refine ⟨_, rfl, _, rfl, _, _, rfl, rfl, p, lc, B, _, rfl, hP, by omega, by omega, by omega, fun z H1 z0 z1 hP1 k1 => ⟨_, _, rfl, rfl, ?_⟩⟩
    refine ⟨_, rfl, by omega, by omega, fun D hD => lc_range (lo := 0) (n := (1 + z).toNat) (fun i H' => Kp p H1 H' ∧ Pen H' p lc (B + 1 + 3 * i) ∧ ∃ zs qs, H' D = some (.lst (zs.map V.ref)) ∧ Tups H' zs (qs.map pq) ∧ qs.length = i ∧ ∀ i, SmD m (cf qs i)) ?_ ?_ ?_⟩
    · exact ⟨Kp.of (same_upd hD), (hP1.same (same_upd hD)).more (by omega), [], [], upd_same, .nil, rfl, fun i => ⟨by show ((0 : Nat) : Int) ≤ _; omega, by show 1 ≤ 99; decide⟩⟩
    · rintro i H' hi ⟨kk, hP', zs, qs, eD, tz, lq, sq⟩
      obtain ⟨d1, d2⟩ := hP1.ne_new hD
      refine ⟨rfl, ?_⟩
      refine ⟨_, rfl, _, rfl, p, lc, _, m, rfl, m1, by omega, hP', by omega, fun r t b H2 hP2 k2 e2 lw zt zb => ?_⟩
      obtain ⟨qq, eq⟩ := low_is_pq (p := (t, b)) lw
      have eD' := k2 _ _ d1 eD
      have er : TR H2 r qq := by
        unfold TR
        rw [e2]
        have h1 : t = qq.num := congrArg Prod.fst eq
        have h2 : b = (qq.den : Int) := congrArg Prod.snd eq
        rw [h1, h2]
      have hq : SmD m qq := by
        have h1 : t = qq.num := congrArg Prod.fst eq
        have h2 : b = (qq.den : Int) := congrArg Prod.snd eq
        refine ⟨by rw [← h1]; exact zt, ?_⟩
        rw [h2, Int.natAbs_natCast] at zb
        exact zb
      refine ⟨_, eD', ?_, ?_, (hP2.put upd_away d1 d2).more (by omega), zs ++ [r], qs ++ [qq], ?_, ?_, by rw [List.length_append, lq]; rfl, fun j => ?_⟩
      · have := tz.lenQ
        rw [List.length_map, sizeLine_eq]
        omega
      · exact fun b o nb eb => by
          rw [upd_ne (ne_of_none eb hD)]
          exact k2 b o nb (kk b o nb eb)
      · rw [upd_same, List.map_append]
        rfl
      · have up : ∀ (c : Addr) (p : Int × Int), H2 c = some (.tup [.int p.1, .int p.2]) → upd H2 D (.lst (zs.map V.ref ++ [V.ref r])) c = some (.tup [.int p.1, .int p.2]) := fun c p z => by
          rw [upd_ne (ne_of z eD' (by intro z; cases z))]
          exact z
        exact Tups.snocQ ((tz.kp hP' k2).imp up) (up r (pq qq) er)
      · rw [cf_app]
        split
        · exact sq j
        · rename_i hj
          by_cases h0 : j - qs.length = 0
          · rw [h0]; exact hq
          · rw [cf_ge (show ([qq] : List Rat).length ≤ j - qs.length by show 1 ≤ _; omega)]
            exact ⟨by show ((0 : Nat) : Int) ≤ _; omega, by show 1 ≤ 99; decide⟩
    · rintro H' ⟨kk, hP', zs, qs, eD, tz, lq, sq⟩
      refine lpoly_q (E := E0) ⟨zs, eD, tz⟩ (by omega) fun l H2 s2 rl => ?_
      refine q l _ H2 ((hP'.more (by omega)).same s2) (k1.trans (kk.trans (Kp.of s2))) rl ?_ (stripQ_id (stripQ_stp _)) fun i => by rw [cf_stripQ]; exact sq i
      have := stripQ_len qs
      omega
theorem scMade : FnScope ["_law_pen_here", "_law_one", "_law_numbers", "_law_number"] ["_law_pen_here", "_law_one"] (defScope sMade) := ⟨rfl, rfl, rfl, by decide +kernel, rfl, by decide +kernel, by decide +kernel⟩
theorem ok_made {f : Addr} {fd : FuncData} (F : Fun K "_law_made_poly" "_law_made_poly" sMade f fd) (T : Bk mg) (PM : PoM P w K mg base CP CR) (Gd_ : Df P w K mg base "_law_draw" 1 ["_law_pen_here", "_law_many"] spDraw) (Gp : Df P w K mg base "_law_pick" 2 ["_law_pen_here", "_law_some"] spPick) (Gs : Df P w K mg base "_law_passed" 3 ["_law_pen_here", "_law_ratio_here"] (spPassed K)) : FnOk P w K mg base CX0 7 f fd ["_law_pen_here", "_law_one"] (spMade K CP) := by
  refine F.ok scMade (fun vs H Q E h => ?_) (fun cdv A outer s H vs Q E hr h => ?_)
  · obtain ⟨p, lc, l, B, a, rfl, _⟩ := h
    rfl
  · obtain ⟨p, lc, l, B, a, rfl, hP, hB, ⟨as, el, ta⟩, la, st, sa, q⟩ := h
    refine ⟨_, (pss_cons (ps_set (i := 2) scMade.nd rfl (Or.inl rfl) (pe_op op_cat (pe_lc (own := [("_law_number", 3)]) (g := gName 3) (tt := tYes) rfl scMade.nd (pi_seq (pv 1)) (blkOk_by (N := ["_law_pen_here", "_law_one", "_law_numbers", "_law_number"]) (sc := defScope sMade) (by decide +kernel)) (fun _ _ _ _ _ => pg_name (i := 3) scMade.nd rfl (Or.inl rfl)) (fun _ _ _ _ _ => pts_nil) (fun _ _ _ _ _ => (pe_call Gs.ok (hr.mono (by decide)) rfl Gs.m Gs.kp Gs.b .nil pass0 (pa_cons (pv 0) (pa_cons (pv 3) pa_nil))))) (pe_op op_rep (pe_lst (pa_cons pe_int pa_nil)) (pe_call Gd_.ok (hr.mono (by decide)) rfl Gd_.m Gd_.kp Gd_.b .nil pass0 (pa_cons (pv 0) (pa_cons pe_int pa_nil))))))
  (pss_one (ps_ret (pe_make PM.mkI PM.okI (hr.mono (by decide)) rfl PM.C.m PM.bI .nil passL (pa_cons (pe_call Gp.ok (hr.mono (by decide)) rfl Gp.m Gp.kp Gp.b .nil pass0 (pa_cons (pv 0) (pa_cons (pe_lst (pa_cons (pe_callTy call_tuple_of (by rfl) T.tuple (by decide +kernel) (pa_cons (pv 2) pa_nil)) (pa_cons (pv 2) pa_nil))) pa_nil))) pa_nil))))), ?_⟩
    have lp : l ≠ p := RL.ne ⟨as, el, ta⟩ hP
    have leq := ta.lenQ
    refine ⟨_, rfl, l, rfl, lc_seq (xs := as.map V.ref) (.inl (SqL.of el)) (fun D k H' => Kp p H H' ∧ Pen H' p lc (B + 3 * k) ∧ ∃ vs ds, H' D = some (.lst vs) ∧ Dts K (fz D p H') vs ds ∧ Giv ds ((a.map pq).take k)) ?_ ?_ ?_ ?_⟩
    · intro D hD
      exact ⟨Kp.of (same_upd hD), (hP.same (same_upd hD)).more (by omega), [], [], upd_same, .nil, .nil⟩
    · intro D k H' hD ⟨kk, _⟩
      exact seq_kp lp kk
    · intro D k x H' hD hk ⟨kk, hP', vs, ds, eD, dts, giv⟩
      obtain ⟨d1, d2⟩ := hP.ne_new hD
      rw [List.getElem?_map] at hk
      cases hr0 : as[k]? with
      | none => rw [hr0] at hk; cases hk
      | some r =>
        rw [hr0] at hk
        cases hk
        obtain ⟨qq, hq, er⟩ := ta.atQ hr0
        have rp : r ≠ p := by
          obtain ⟨_, _, _, _, _, g1, _⟩ := hP
          exact ne_of er g1.1 (by intro z; cases z)
        have okq : RatOk (pq qq) := by have := sa k; rw [cf_get hq] at this; exact this
        have hk13 : k < 13 := by
          have := (List.getElem?_eq_some_iff.mp hr0).1
          omega
        refine ⟨rfl, ?_⟩
        refine ⟨_, rfl, _, rfl, p, lc, r, _, (pq qq).1, (pq qq).2, rfl, hP', by omega, kk _ _ rp er, okq.lw.pos, okq.zt, okq.zb, fun v d kz H2 hP2 kp' hd pa k0 k3 gd => ?_⟩
        have eD' := kp' _ _ d1 eD
        have hDl : vs.length < sizeLine := by
          have := dts.len
          have := giv.len
          rw [List.length_take] at this
          rw [sizeLine_eq]
          omega
        have hp := hP'.there.choose_spec
        refine ⟨_, eD', hDl, ?_, (hP2.put upd_away d1 d2).more (by omega), vs ++ [v], ds ++ [d], upd_same, ?_, ?_⟩
        · exact fun b o nb eb => by
            rw [upd_ne (ne_of_none eb hD)]
            exact kp' b o nb (kk b o nb eb)
        · have up : Same (fz D p H2) (fz D p (upd H2 D (.lst (vs ++ [v])))) := fz_mono fun b o h1 h2 e => by rw [upd_ne h1]; exact e
          exact (dts.mono ((fz_mono fun b o h1 h2 e => kp' b o h2 e).trans up)).app (.cons (hd.mono ((nw_fz eD hp).trans up)) .nil)
        · have z := giv.snoc (p := pq qq) pa k0 k3 gd
          have e : (a.map pq).take (k + 1) = (a.map pq).take k ++ [pq qq] := by rw [List.take_succ, List.getElem?_map, hq]; rfl
          rw [e]
          exact z
    · intro lg H11 nlg ⟨k11, hP11, vs, ds, elg, dts, giv⟩
      obtain ⟨lgp, lgc⟩ := hP.ne_new nlg
      have etk : (a.map pq).take (as.map V.ref).length = a.map pq := by rw [List.length_map, leq]; exact List.take_of_length_le (by rw [List.length_map]; exact Nat.le_refl _)
      rw [etk] at giv
      have hP11 := hP11.more (show _ ≤ B + 60 by rw [List.length_map]; omega)
      have lenv : vs.length ≤ 13 := by
        have h1 := dts.len
        have h2 := giv.len
        rw [List.length_map] at h2
        omega
      refine ⟨(by show 1 ≤ sizeLine; decide), fun l1 nl1 => ?_⟩
      have el1 : upd H11 l1 (HO.lst [V.int 0]) l1 = some (HO.lst [V.int 0]) := upd_same
      have s12 : Same H11 (upd H11 l1 (HO.lst [V.int 0])) := same_upd nl1
      have l1p := (hP11.ne_new nl1).1
      generalize upd H11 l1 (HO.lst [V.int 0]) = H12 at el1 s12 ⊢
      have hP12 := hP11.same s12
      refine ⟨_, rfl, p, lc, _, 2, rfl, hP12, by omega, by decide, by decide, fun m H13 m0 m1 hP13 k13 => ?_⟩
      refine ⟨l1, m, _, rfl, rfl, k13 _ _ l1p el1, by omega, by omega, (by rw [sizeLine_eq]; show 1 * m.toNat ≤ _; omega), fun l2 nl2 => ?_⟩
      have el2 : upd H13 l2 (HO.lst (List.replicate m.toNat [V.int 0]).flatten) l2 = some (HO.lst (List.replicate m.toNat (V.int 0))) := by rw [upd_same, List.flatten_replicate_singleton]
      have s14 : Same H13 (upd H13 l2 (HO.lst (List.replicate m.toNat [V.int 0]).flatten)) := same_upd nl2
      generalize upd H13 l2 (HO.lst (List.replicate m.toNat [V.int 0]).flatten) = H14 at el2 s14 ⊢
      have elg14 := s14 _ _ (k13 _ _ lgp (s12 _ _ elg))
      refine ⟨lg, l2, _, _, rfl, rfl, elg14, el2, (by rw [List.length_replicate, sizeLine_eq]; omega), fun nb nnb => ?_⟩
      have enb : upd H14 nb (HO.lst (vs ++ List.replicate m.toNat (V.int 0))) nb = some (HO.lst (vs ++ List.replicate m.toNat (V.int 0))) := upd_same
      have s15 : Same H14 (upd H14 nb (HO.lst (vs ++ List.replicate m.toNat (V.int 0)))) := same_upd nnb
      have hP14 := hP13.same s14
      have nbp := (hP14.ne_new nnb).1
      generalize upd H14 nb (HO.lst (vs ++ List.replicate m.toNat (V.int 0))) = H15 at enb s15 ⊢
      have hP15 := hP14.same s15
      refine ⟨_, rfl, _, rfl, nb, _, rfl, .inl ⟨SqL.of enb, fun tg ntg => ?_⟩⟩
      have etg : upd H15 tg (HO.tup (vs ++ List.replicate m.toNat (V.int 0))) tg = some (HO.tup (vs ++ List.replicate m.toNat (V.int 0))) := upd_same
      have s16 : Same H15 (upd H15 tg (HO.tup (vs ++ List.replicate m.toNat (V.int 0)))) := same_upd ntg
      have tgp := (hP15.ne_new ntg).1
      generalize upd H15 tg (HO.tup (vs ++ List.replicate m.toNat (V.int 0))) = H16 at etg s16 ⊢
      have hP16 := hP15.same s16
      refine ⟨_, rfl, (by show 2 ≤ sizeLine; decide), fun l4 nl4 => ?_⟩
      have el4 : upd H16 l4 (HO.lst [V.ref tg, V.ref nb]) l4 = some (HO.lst [V.ref tg, V.ref nb]) := upd_same
      have s17 : Same H16 (upd H16 l4 (HO.lst [V.ref tg, V.ref nb])) := same_upd nl4
      have l4p := (hP16.ne_new nl4).1
      generalize upd H16 l4 (HO.lst [V.ref tg, V.ref nb]) = H17 at el4 s17 ⊢
      have hP17 := hP16.same s17
      refine ⟨p, lc, l4, _, _, rfl, hP17, by omega, el4, l4p, (by show 0 < 2; decide), (by show 2 < 1000000; decide), fun x H18 hx hP18 k18 => ?_⟩
      have k1118 : Kp p H11 H18 := ((Kp.of s12).trans k13).trans ((Kp.of (s14.trans (s15.trans (s16.trans s17)))).trans k18)
      have dts18 : Dts K H18 (vs ++ List.replicate m.toNat (V.int 0)) (ds ++ List.replicate m.toNat (PyData.int 0)) := (dts.mono ((fz_mono fun b o _ h e => k1118 b o h e).trans fz_sub)).app (Dts.rep0 _)
      have giv2 := giv_rep0 giv m.toNat
      have ok2 : ∀ y ∈ a.map pq ++ List.replicate m.toNat (0, 1), RatOk y := fun y hy => by
        rcases List.mem_append.mp hy with h | h
        · obtain ⟨q0, hq0, rfl⟩ := List.mem_map.mp h
          obtain ⟨i, rfl⟩ := mem_cf hq0
          exact sa i
        · rw [List.eq_of_mem_replicate h]
          exact sm_s80 sm_zero'
      obtain ⟨dg, hdg, sdg⟩ : ∃ dg, Dt K H18 x dg ∧ seqD dg = some (ds ++ List.replicate m.toNat (PyData.int 0)) := by
        simp only [List.mem_cons, List.not_mem_nil, or_false] at hx
        rcases hx with h | h
        · rw [h]
          exact ⟨.tuple _, .tup (SqT.of (k18 _ _ tgp (s17 _ _ etg))) dts18, rfl⟩
        · rw [h]
          exact ⟨.list _, .lst (SqL.of (k18 _ _ nbp (s17 _ _ (s16 _ _ enb)))) dts18, rfl⟩
      obtain ⟨qs, hqs, eqs, bqs⟩ := giv2.row ok2
      have rdg : rowD dg = some qs := by rw [rowD_seq sdg]; exact hqs
      refine poly_made hdg (fun ds' h => ?_) (fun ps' h => ?_) (fun z => by rw [rdg] at z; cases z)
      · rw [sdg] at h
        cases h
        have := dts18.len
        rw [List.length_append, List.length_replicate] at this
        omega
      rw [rdg] at h
      cases h
      refine ⟨bqs, fun md H19 s19 nmd made => q md H19 ((hP18.more (by omega)).same s19) (k11.trans (k1118.trans (Kp.of s19))) ?_⟩
      have e : a.map pq ++ List.replicate m.toNat (0, 1) = (a ++ List.replicate m.toNat 0).map pq := by
        rw [List.map_append, List.map_replicate]
        rfl
      have e2 : stripQ (a ++ List.replicate m.toNat 0) = a := by
        rw [← st]
        refine (stripQ_ext fun i => ?_).trans (by rw [st])
        rw [st, cf_app]
        split
        · rfl
        · rw [cf_rep0, cf_ge (by omega)]
      rw [eqs, e, strip_map, e2] at made
      exact made
end

end Vf

set_option maxRecDepth 100000
set_option maxHeartbeats 8000000
namespace Vf
open PySem PySem.Spec PyProof.Rows L2
def spLPT : Sp := fun vs H Q _ => ∃ (l1 l2 : Addr) (a b : List Rat) (M N M' N' : Nat), vs = [.ref l1, .ref l2] ∧ RL H l1 a ∧ RL H l2 b ∧ a.length ≤ 40 ∧ b.length ≤ 40 ∧ 0 < M ∧ 0 < M' ∧ 0 < N ∧ 0 < N' ∧ (∀ i, Fr M N (cf a i)) ∧ (∀ i, Fr M' N' (cf b i)) ∧
  M * M' < 2 ^ 4300 ∧ 41 * (N * N') < 2 ^ 4300 ∧ ∀ (l : Addr) (H' : Hp), Same H H' → RL H' l (stripQ (pmul a b)) → Q (.ref l) H'
/-- what has come to the number of a power after i rows and k numbers of the next one -/
def pt (a b : List Rat) (i k j : Nat) : Rat := sm (fun x => if x ≤ j then cf a x * cf b (j - x) else 0) i + if i ≤ j ∧ j - i < k then cf a i * cf b (j - i) else 0
theorem pt_zero (a b : List Rat) (j : Nat) : pt a b 0 0 j = 0 := by
  unfold pt
  rw [if_neg (by omega)]
  show (0 : Rat) + 0 = 0
  exact Rat.add_zero 0
theorem pt_next (a b : List Rat) (i k j : Nat) : pt a b i (k + 1) j = if j = i + k then pt a b i k j + cf a i * cf b k else pt a b i k j := by
  unfold pt
  by_cases h : j = i + k
  · rw [if_pos h, if_pos (by omega), if_neg (by omega), show j - i = k by omega, Rat.add_zero]
  · rw [if_neg h]
    by_cases h2 : i ≤ j ∧ j - i < k
    · rw [if_pos h2, if_pos (by omega)]
    · rw [if_neg h2, if_neg (by omega)]
theorem pt_row (a b : List Rat) (i j : Nat) : pt a b (i + 1) 0 j = pt a b i b.length j := by
  unfold pt
  rw [if_neg (by omega), Rat.add_zero]
  show sm _ i + (if i ≤ j then cf a i * cf b (j - i) else 0) = _
  congr 1
  by_cases h : i ≤ j
  · rw [if_pos h]
    by_cases h2 : j - i < b.length
    · rw [if_pos ⟨h, h2⟩]
    · rw [if_neg (fun z => h2 z.2), cf_ge (l := b) (by omega), Rat.mul_zero]
  · rw [if_neg h, if_neg (fun z => h z.1)]
theorem pt_end (a b : List Rat) (j : Nat) : pt a b a.length 0 j = pc a b j := by
  unfold pt pc
  rw [if_neg (by omega), Rat.add_zero]
  have e : sm (fun x => if x ≤ j then cf a x * cf b (j - x) else 0) (max a.length (j + 1)) = sm (fun x => if x ≤ j then cf a x * cf b (j - x) else 0) a.length :=
    sm_more (by omega) fun i h1 h2 => by
      rw [cf_ge h1, Rat.zero_mul]
      split <;> rfl
  have e2 : sm (fun x => if x ≤ j then cf a x * cf b (j - x) else 0) (max a.length (j + 1)) = sm (fun x => if x ≤ j then cf a x * cf b (j - x) else 0) (j + 1) :=
    sm_more (by omega) fun i h1 h2 => by rw [if_neg (by omega)]
  rw [← e, e2]
  exact sm_ext fun i hi => by rw [if_pos (by omega)]
theorem pt_fr {a b : List Rat} {M N M' N' : Nat} (ha : ∀ i, Fr M N (cf a i)) (hb : ∀ i, Fr M' N' (cf b i)) (i k j : Nat) : Fr (M * M') ((i + 1) * (N * N')) (pt a b i k j) := by
  unfold pt
  have h1 : Fr (M * M') (i * (N * N')) (sm (fun x => if x ≤ j then cf a x * cf b (j - x) else 0) i) := sm_fr fun x _ => by
    split
    · exact (ha x).mul (hb _)
    · exact Fr.zero _ _
  rw [Nat.succ_mul]
  refine h1.add ?_
  split
  · exact (ha i).mul (hb _)
  · exact Fr.zero _ _
section
variable {P : Program} {w : World} {K : PySem.W.Frag} {mg : Str → Option Value} {base : Heap} {CN : Addr}
abbrev sLPTimes : Stmt := topS 62
theorem scLPTimes : FnScope ["_law_one", "_law_two", "_law_found", "_law_i", "_law_k"] ["_law_one", "_law_two"] (defScope sLPTimes) := ⟨rfl, rfl, rfl, by decide +kernel, rfl, by decide +kernel, by decide +kernel⟩
theorem ok_lptimes {f : Addr} {fd : FuncData} (F : Fun K "_law_p_times" "_law_p_times" sLPTimes f fd) (T : Bk mg) (hmax : mg "max" = none) (Gpoly : Df P w K mg base "_law_poly" 1 ["_law_numbers"] (spLPoly K)) (Gplus : Df P w K mg base "_law_plus" 3 ["_law_one", "_law_two"] (spL2 rAdd)) (Gtimes : Df P w K mg base "_law_times" 3 ["_law_one", "_law_two"] (spL2 rMul)) :
    FnOk P w K mg base CX0 4 f fd ["_law_one", "_law_two"] spLPT := by
  refine F.ok scLPTimes (fun vs H Q E h => ?_) (fun cdv A outer s H vs Q E hr h => ?_)
  · obtain ⟨l1, l2, a, b, M, N, M', N', rfl, _⟩ := h
    rfl
  · obtain ⟨l1, l2, a, b, M, N, M', N', rfl, ⟨as, e1, t1⟩, ⟨bs, e2, t2⟩, la, lb, hM, hM', hN, hN', fa, fb, hMM, hNN, q⟩ := h
    refine ⟨_, (pss_cons (ps_set (i := 2) scLPTimes.nd rfl (Or.inl rfl) (pe_op op_rep (pe_lst (pa_cons (pe_tup (pa_cons pe_int (pa_cons pe_int pa_nil))) pa_nil)) (pe_callB (cr_max rfl) (by rfl) hmax (by decide +kernel) (pa_cons (pe_lst (pa_cons pe_int (pa_cons (pe_op op_sub (pe_op op_add (pe_callB call_len_seq (by rfl) T.len (by decide +kernel) (pa_cons (pv 0) pa_nil)) (pe_callB call_len_seq (by rfl) T.len (by decide +kernel) (pa_cons (pv 1) pa_nil))) pe_int) pa_nil))) pa_nil))))
  (pss_cons (ps_for PassesOwn.never rfl (pi_range1 (by rfl) T.range (pa_cons (pe_callB call_len_seq (by rfl) T.len (by decide +kernel) (pa_cons (pv 0) pa_nil)) pa_nil)) (pg_name (i := 3) scLPTimes.nd rfl (Or.inl rfl))
    (pss_one (ps_for PassesOwn.never rfl (pi_range1 (by rfl) T.range (pa_cons (pe_callB call_len_seq (by rfl) T.len (by decide +kernel) (pa_cons (pv 1) pa_nil)) pa_nil)) (pg_name (i := 4) scLPTimes.nd rfl (Or.inl rfl))
      (pss_one (ps_asg (pe_call Gplus.ok (hr.mono (by decide)) rfl Gplus.m Gplus.kp Gplus.b .nil pass0 (pa_cons (pe_ix ix_list (pv 2) (pe_op op_add (pv 3) (pv 4)) (fun _ _ => rfl)) (pa_cons (pe_call Gtimes.ok (hr.mono (by decide)) rfl Gtimes.m Gtimes.kp Gtimes.b .nil pass0 (pa_cons (pe_ix ix_list (pv 0) (pv 3) (fun _ _ => rfl)) (pa_cons (pe_ix ix_list (pv 1) (pv 4) (fun _ _ => rfl)) pa_nil))) pa_nil))) (pg_sub (pv 2) (pe_op op_add (pv 3) (pv 4)) set_list))))))
  (pss_one (ps_ret (pe_call Gpoly.ok (hr.mono (by decide)) rfl Gpoly.m Gpoly.kp Gpoly.b .nil pass0 (pa_cons (pv 2) pa_nil)))))), ?_⟩
    have n1 := t1.lenQ
    have n2 := t2.lenQ
    have hMp : 0 < M * M' := Nat.mul_pos hM hM'
    have sA : SrL a := fun i => (fa i).sr hM (by have := Nat.le_mul_of_pos_right M hM'; omega) (by
      have := Nat.le_mul_of_pos_right N hN'
      omega)
    have sB : SrL b := fun i => (fb i).sr hM' (by have := Nat.le_mul_of_pos_left M' hM; omega) (by
      have := Nat.le_mul_of_pos_left N' hN
      omega)
    have sP : ∀ i k j, i ≤ 40 → Sr (pt a b i k j) := fun i k j hi => (pt_fr fa fb i k j).sr hMp hMM (by
      have : (i + 1) * (N * N') ≤ 41 * (N * N') := Nat.mul_le_mul_right _ (by omega)
      omega)
    have sM : ∀ i k, Sr (cf a i * cf b k) := fun i k => ((fa i).mul (fb k)).sr hMp hMM (by omega)
    refine ⟨(by show 2 ≤ sizeLine; decide), fun t0 nt0 => ?_⟩
    have et0 : upd H t0 (HO.tup [V.int 0, V.int 1]) t0 = some (HO.tup [V.int 0, V.int 1]) := upd_same
    have s1 : Same H (upd H t0 (HO.tup [V.int 0, V.int 1])) := same_upd nt0
    generalize upd H t0 (HO.tup [V.int 0, V.int 1]) = H1 at et0 s1 ⊢
    refine ⟨(by show 1 ≤ sizeLine; decide), fun k1 nk1 => ?_⟩
    have ek1 : upd H1 k1 (HO.lst [V.ref t0]) k1 = some (HO.lst [V.ref t0]) := upd_same
    have s2 : Same H1 (upd H1 k1 (HO.lst [V.ref t0])) := same_upd nk1
    generalize upd H1 k1 (HO.lst [V.ref t0]) = H2 at ek1 s2 ⊢
    have s12 := s1.trans s2
    refine ⟨_, rfl, l1, _, rfl, .inl (SqL.of (s12 _ _ e1)), _, rfl, l2, _, rfl, .inl (SqL.of (s12 _ _ e2)), _, _, rfl, rfl, _, _, rfl, rfl, (by show 2 ≤ sizeLine; decide), fun lm nlm => ?_⟩
    rw [List.length_map, List.length_map, n1, n2]
    have elm : upd H2 lm (HO.lst [V.int 0, V.int ((a.length : Nat) + (b.length : Nat) - 1)]) lm = some (HO.lst [V.int 0, V.int ((a.length : Nat) + (b.length : Nat) - 1)]) := upd_same
    have s3 : Same H2 (upd H2 lm (HO.lst [V.int 0, V.int ((a.length : Nat) + (b.length : Nat) - 1)])) := same_upd nlm
    generalize upd H2 lm (HO.lst [V.int 0, V.int ((a.length : Nat) + (b.length : Nat) - 1)]) = H3 at elm s3 ⊢
    refine ⟨lm, [0, (a.length : Nat) + (b.length : Nat) - 1], rfl, SqL.of elm, (by show 0 < 2; decide), fun m hm1 hm2 => ?_⟩
    have hm : m.toNat = a.length + b.length - 1 ∧ 0 ≤ m ∧ m ≤ 100 := by
      have h1 := hm2 0 (by simp)
      have h2 := hm2 ((a.length : Nat) + (b.length : Nat) - 1) (by simp)
      simp only [List.mem_cons, List.not_mem_nil, or_false] at hm1
      omega
    refine ⟨k1, m, _, rfl, rfl, s3 _ _ ek1, by omega, by omega, (by rw [sizeLine_eq]; show 1 * _ ≤ _; omega), fun fo nfo => ?_⟩
    have efo : upd H3 fo (HO.lst (List.replicate m.toNat [V.ref t0]).flatten) fo = some (HO.lst ((List.replicate (a.length + b.length - 1) t0).map V.ref)) := by
      rw [upd_same, flat_repQ, hm.1]
    have s4 : Same H3 (upd H3 fo (HO.lst (List.replicate m.toNat [V.ref t0]).flatten)) := same_upd nfo
    generalize upd H3 fo (HO.lst (List.replicate m.toNat [V.ref t0]).flatten) = H4 at efo s4 ⊢
    have s04 : Same H H4 := s12.trans (s3.trans s4)
    have nfoH : H fo = none := (s12.trans s3).free nfo
    have tz : TR H4 t0 0 := s4 _ _ (s3 _ _ (s2 _ _ et0))
    have fo1 : l1 ≠ fo := ne_of_none e1 nfoH
    have fo2 : l2 ≠ fo := ne_of_none e2 nfoH
    generalize hL : a.length + b.length - 1 = L at efo
    have e0 : List.replicate L (0 : Rat) = tab L (pt a b 0 0) := by
      refine List.ext_getElem (by rw [List.length_replicate, tab_len]) fun j h1 h2 => ?_
      rw [← cf_lt h1, ← cf_lt h2, cf_rep0, cf_tab, if_pos (by rw [List.length_replicate] at h1; exact h1), pt_zero]
    have t4 := tups_rep0 tz L
    rw [e0] at t4
    refine ⟨_, rfl, l1, _, rfl, .inl (SqL.of (s04 _ _ e1)), ?_⟩
    rw [List.length_map, n1]
    refine ⟨_, rfl, by omega, by omega, for_range (lo := 0) (n := ((a.length : Nat) : Int).toNat) (fun i σ H' => ∃ v3 v4 zs, σ = [some (.ref l1), some (.ref l2), some (.ref fo), v3, v4] ∧ Same H H' ∧ H' fo = some (.lst (zs.map V.ref)) ∧ Tups H' zs ((tab L (pt a b i 0)).map pq)) ⟨none, none, _, rfl, s04, efo, t4⟩ ?_ ?_⟩
    · rintro i σ H5 hi ⟨v3, v4, zs, rfl, s5, e5, t5⟩
      have hi : i < a.length := by omega
      obtain ⟨ra, ha1, ha2⟩ := t1.getQ hi
      refine ⟨_, rfl, l2, _, rfl, .inl (SqL.of (s5 _ _ e2)), ?_⟩
      rw [List.length_map, n2]
      refine ⟨_, rfl, by omega, by omega, for_range (lo := 0) (n := ((b.length : Nat) : Int).toNat) (fun k σ H' => ∃ v4 zs, σ = [some (.ref l1), some (.ref l2), some (.ref fo), some (.int (0 + (i : Int))), v4] ∧ Same H H' ∧ H' fo = some (.lst (zs.map V.ref)) ∧ Tups H' zs ((tab L (pt a b i k)).map pq)) ⟨_, _, rfl, s5, e5, t5⟩ ?_ ?_⟩
      · rintro k σ H6 hk ⟨v4, zs, rfl, s6, e6, t6⟩
        have hk : k < b.length := by omega
        have hik : i + k < L := by omega
        obtain ⟨rb, hb1, hb2⟩ := t2.getQ hk
        obtain ⟨rc, hc1, hc2⟩ := t6.getQ (i := i + k) (by rw [tab_len]; exact hik)
        rw [cf_tab, if_pos hik] at hc2
        have ix : (0 + (i : Int)) + (0 + (k : Int)) = ((i + k : Nat) : Int) := by omega
        have gc : (zs.map V.ref)[i + k]? = some (V.ref rc) := by rw [List.getElem?_map, hc1]; rfl
        have ga : (as.map V.ref)[i]? = some (V.ref ra) := by rw [List.getElem?_map, ha1]; rfl
        have gb : (bs.map V.ref)[k]? = some (V.ref rb) := by rw [List.getElem?_map, hb1]; rfl
        refine ⟨_, rfl, _, rfl, _, rfl, _, _, rfl, rfl, fo, _, _, .ref rc, rfl, rfl, SqL.of e6, at_of ix gc, ?_⟩
        refine ⟨_, rfl, _, rfl, l1, _, _, .ref ra, rfl, rfl, SqL.of (s6 _ _ e1), at_of (by omega) ga, _, rfl, _, rfl, l2, _, _, .ref rb, rfl, rfl, SqL.of (s6 _ _ e2), at_of (by omega) gb, ?_⟩
        refine ⟨ra, rb, cf a i, cf b k, rfl, ha2.same s6, hb2.same s6, sA i, sB k, fun r7 H7 s7 nr7 er7 => ?_⟩
        refine ⟨rc, r7, _, _, rfl, hc2.same s7, er7, sP i k _ (by omega), sM i k, fun r8 H8 s8 nr8 er8 => ?_⟩
        have s78 := s7.trans s8
        have e8 := s78 _ _ e6
        have zl := t6.lenQ
        rw [tab_len] at zl
        have hix : ixN (zs.map V.ref).length ((0 + (i : Int)) + (0 + (k : Int))) = some (i + k) := by
          unfold ixN
          rw [ix, if_pos (by omega), List.length_map, zl, if_pos (by omega)]
          rfl
        refine ⟨_, rfl, _, rfl, _, rfl, _, _, rfl, rfl, fo, _, _, i + k, rfl, rfl, e8, hix, ?_⟩
        refine ⟨_, zs.set (i + k) r8, rfl, (fun b' o' e' => ?_), ?_, ?_⟩
        · rw [upd_ne (ne_of_none e' nfoH)]
          exact s78 _ _ (s6 _ _ e')
        · rw [upd_same, List.map_set]
        · have up : ∀ (c : Addr) (p : Int × Int), H8 c = some (.tup [.int p.1, .int p.2]) → upd H8 fo (.lst ((zs.map V.ref).set (i + k) (V.ref r8))) c = some (.tup [.int p.1, .int p.2]) := fun c p z => by
            rw [upd_ne (ne_of z e8 (by intro z; cases z))]
            exact z
          have er8' : TR H8 r8 (pt a b i k (i + k) + cf a i * cf b k) := er8
          have t8 := ((t6.same s78).setQ (i + k) er8').imp up
          have eq : (tab L (pt a b i k)).set (i + k) (pt a b i k (i + k) + cf a i * cf b k) = tab L (pt a b i (k + 1)) := by
            refine List.ext_getElem (by rw [List.length_set, tab_len, tab_len]) fun j h1 h2 => ?_
            rw [tab_len] at h2
            rw [← cf_lt h1, ← cf_lt (by rw [tab_len]; exact h2), cf_set (by rw [tab_len]; exact hik), cf_tab, cf_tab, if_pos h2, if_pos h2, pt_next]
            split
            · rename_i h; rw [h]
            · rfl
          rw [eq] at t8
          exact t8
      · rintro σ H6 ⟨v4, zs, rfl, s6, e6, t6⟩
        refine ⟨_, _, zs, rfl, s6, e6, ?_⟩
        have eq : tab L (pt a b i ((b.length : Nat) : Int).toNat) = tab L (pt a b (i + 1) 0) := by
          rw [Int.toNat_natCast]
          unfold tab
          refine List.map_congr_left fun j _ => (pt_row a b i j).symm
        rw [eq] at t6
        exact t6
    · rintro σ H5 ⟨v3, v4, zs, rfl, s5, e5, t5⟩
      refine ⟨_, rfl, ?_⟩
      have eq : tab L (pt a b ((a.length : Nat) : Int).toNat 0) = pmul a b := by
        rw [Int.toNat_natCast]
        unfold pmul
        rw [hL]
        unfold tab
        refine List.map_congr_left fun j _ => pt_end a b j
      rw [eq] at t5
      refine lpoly_q (E := E0) ⟨zs, e5, t5⟩ (by unfold pmul; rw [tab_len]; omega) fun l' H'' s' r => q l' H'' (s5.trans s') r
end

end Vf

set_option maxRecDepth 100000
namespace Vf
/-! ### values of rows -/
def ev : List Rat → Rat → Rat
  | [], _ => 0
  | a :: r, x => a + x * ev r x
theorem cf_cons (a : Rat) (r : List Rat) (i : Nat) : cf (a :: r) i = if i = 0 then a else cf r (i - 1) := by
  cases i with
  | zero => rfl
  | succ i => rfl
theorem sm_head (f : Nat → Rat) : ∀ n, sm f (n + 1) = f 0 + sm (fun i => f (i + 1)) n
  | 0 => by show 0 + f 0 = f 0 + 0; grind
  | n + 1 => by
    show sm f (n + 1) + f (n + 1) = f 0 + (sm (fun i => f (i + 1)) n + f (n + 1))
    rw [sm_head f n]; grind
theorem sm_mulr (f : Nat → Rat) (c : Rat) : ∀ n, sm (fun i => f i * c) n = sm f n * c
  | 0 => by show (0 : Rat) = 0 * c; grind
  | n + 1 => by
    show sm (fun i => f i * c) n + f n * c = (sm f n + f n) * c
    rw [sm_mulr f c n]; grind
theorem sm_mull (f : Nat → Rat) (c : Rat) : ∀ n, sm (fun i => c * f i) n = c * sm f n
  | 0 => by show (0 : Rat) = c * 0; grind
  | n + 1 => by
    show sm (fun i => c * f i) n + c * f n = c * (sm f n + f n)
    rw [sm_mull f c n]; grind
theorem sm_addd (f g : Nat → Rat) : ∀ n, sm (fun i => f i + g i) n = sm f n + sm g n
  | 0 => by show (0 : Rat) = 0 + 0; grind
  | n + 1 => by
    show sm (fun i => f i + g i) n + (f n + g n) = (sm f n + f n) + (sm g n + g n)
    rw [sm_addd f g n]; grind
theorem ev_sm (x : Rat) : ∀ (l : List Rat) (n : Nat), l.length ≤ n → ev l x = sm (fun i => cf l i * x ^ i) n
  | [], n, _ => by
    show (0 : Rat) = _
    rw [sm_zero fun i _ => by rw [cf_nil]; grind]
  | a :: r, 0, h => by simp at h
  | a :: r, n + 1, h => by
    rw [sm_head]
    show a + x * ev r x = cf (a :: r) 0 * x ^ 0 + sm (fun i => cf (a :: r) (i + 1) * x ^ (i + 1)) n
    rw [ev_sm x r n (by simpa using h), ← sm_mull]
    have e : sm (fun i => x * (cf r i * x ^ i)) n = sm (fun i => cf (a :: r) (i + 1) * x ^ (i + 1)) n := sm_ext fun i _ => by
      rw [show cf (a :: r) (i + 1) = cf r i from rfl, Rat.pow_succ]; grind
    rw [e, show cf (a :: r) 0 = a from rfl, Rat.pow_zero]; grind
theorem ev_ext {a b : List Rat} (h : ∀ i, cf a i = cf b i) (x : Rat) : ev a x = ev b x := by
  rw [ev_sm x a (max a.length b.length) (by omega), ev_sm x b (max a.length b.length) (by omega)]
  exact sm_ext fun i _ => by rw [h]
theorem ev_stripQ (l : List Rat) (x : Rat) : ev (stripQ l) x = ev l x := ev_ext (cf_stripQ l) x
theorem ev_padd (a b : List Rat) (x : Rat) : ev (padd a b) x = ev a x + ev b x := by
  have l : (padd a b).length = max a.length b.length := by unfold padd; rw [tab_len]
  rw [ev_sm x a (max a.length b.length) (by omega), ev_sm x b (max a.length b.length) (by omega), ev_sm x _ (max a.length b.length) (by omega), ← sm_addd]
  exact sm_ext fun i _ => by rw [cf_padd]; grind
theorem ev_pscale (a : List Rat) (c x : Rat) : ev (pscale a c) x = ev a x * c := by
  have l : (pscale a c).length = a.length := by unfold pscale; rw [List.length_map]
  rw [ev_sm x a a.length (by omega), ev_sm x _ a.length (by omega), ← sm_mulr]
  exact sm_ext fun i _ => by rw [show cf (pscale a c) i = cf a i * c from cf_map (f := (· * c)) (Rat.zero_mul c) a i]; grind
theorem pc_cons (a : Rat) (r b : List Rat) (k : Nat) : pc (a :: r) b k = a * cf b k + if k = 0 then 0 else pc r b (k - 1) := by
  unfold pc
  rw [sm_head]
  show cf (a :: r) 0 * cf b (k - 0) + sm (fun i => cf (a :: r) (i + 1) * cf b (k - (i + 1))) k = _
  rw [show cf (a :: r) 0 = a from rfl, Nat.sub_zero]
  congr 1
  split
  · next h => rw [h]; rfl
  · next h =>
    rw [show k - 1 + 1 = k by omega]
    exact sm_ext fun i hi => by rw [show cf (a :: r) (i + 1) = cf r i from rfl, show k - (i + 1) = k - 1 - i by omega]
theorem ev_pc (x : Rat) (b : List Rat) : ∀ (a : List Rat) (n : Nat), a.length + b.length ≤ n + 1 → sm (fun k => pc a b k * x ^ k) n = ev a x * ev b x
  | [], n, h => by
    rw [sm_zero fun k _ => by rw [show pc [] b k = 0 from by unfold pc; exact sm_zero fun i _ => by rw [cf_nil]; grind]; grind]
    show (0 : Rat) = 0 * _
    grind
  | a :: r, n, h => by
    have h' : r.length + b.length ≤ n := by simp at h; omega
    show _ = (a + x * ev r x) * ev b x
    have e1 : sm (fun k => pc (a :: r) b k * x ^ k) n = sm (fun k => a * (cf b k * x ^ k)) n + sm (fun k => (if k = 0 then 0 else pc r b (k - 1)) * x ^ k) n := by
      rw [← sm_addd]
      exact sm_ext fun k _ => by rw [pc_cons]; grind
    rw [e1, sm_mull, ← ev_sm x b n (by omega)]
    cases n with
    | zero =>
      have hb : b = [] := List.length_eq_zero_iff.mp (by omega)
      subst hb
      show a * 0 + 0 = (a + x * ev r x) * 0
      grind
    | succ n =>
      rw [sm_head]
      have e2 : sm (fun i => (if i + 1 = 0 then 0 else pc r b (i + 1 - 1)) * x ^ (i + 1)) n = x * sm (fun k => pc r b k * x ^ k) n := by
        rw [← sm_mull]
        exact sm_ext fun i _ => by rw [if_neg (by omega), Nat.add_sub_cancel, Rat.pow_succ]; grind
      rw [e2, ev_pc x b r n (by omega)]
      grind
theorem ev_pmul (a b : List Rat) (x : Rat) : ev (pmul a b) x = ev a x * ev b x := by
  by_cases h : a.length + b.length = 0
  · have ha : a = [] := List.length_eq_zero_iff.mp (by omega)
    have hb : b = [] := List.length_eq_zero_iff.mp (by omega)
    subst ha; subst hb
    show (0 : Rat) = 0 * 0
    grind
  · have l : (pmul a b).length = a.length + b.length - 1 := by unfold pmul; rw [tab_len]
    rw [ev_sm x (pmul a b) (a.length + b.length - 1) (by omega), ← ev_pc x b a (a.length + b.length - 1) (by omega)]
    exact sm_ext fun i _ => by rw [cf_pmul]
/-! ### a row whose values are 0 is 0 -/
def absR (x : Rat) : Rat := if x < 0 then -x else x
theorem absR_nn (x : Rat) : 0 ≤ absR x := by unfold absR; split <;> grind
theorem absR_add (x y : Rat) : absR (x + y) ≤ absR x + absR y := by unfold absR; split <;> split <;> split <;> grind
theorem mul_nn {a b : Rat} (h : 0 ≤ a) (h2 : 0 ≤ b) : 0 ≤ a * b := Rat.mul_nonneg h h2
theorem absR_le {x m : Rat} (h1 : x ≤ m) (h2 : -x ≤ m) : absR x ≤ m := by unfold absR; split <;> assumption
theorem absR_self (x : Rat) : x ≤ absR x ∧ -x ≤ absR x := by unfold absR; split <;> constructor <;> grind
theorem absR_mul_le {x y z : Rat} (hx : absR x ≤ z) : absR (x * y) ≤ z * absR y := by
  have h0 := absR_nn y
  have h1 := absR_self x
  unfold absR at h0 ⊢
  split at h0 <;> split <;> rename_i h2 h3 <;> (have := mul_nn (show 0 ≤ z + x by grind) h0; have := mul_nn (show 0 ≤ z - x by grind) h0; grind)
def tot : List Rat → Rat
  | [] => 0
  | a :: r => absR a + tot r
theorem tot_nn : ∀ l : List Rat, 0 ≤ tot l
  | [] => by decide
  | a :: r => by have := absR_nn a; have := tot_nn r; show 0 ≤ absR a + tot r; grind
theorem ev_small {x : Rat} (hx : absR x ≤ 1) : ∀ l : List Rat, absR (ev l x) ≤ tot l
  | [] => by show absR 0 ≤ 0; decide
  | a :: r => by
    have h1 := absR_add a (x * ev r x)
    have h2 := absR_mul_le (y := ev r x) hx
    have h3 := ev_small hx r
    show absR (a + x * ev r x) ≤ absR a + tot r
    grind
theorem ev_zero : ∀ (l : List Rat), (∀ x, x ≠ 0 → ev l x = 0) → ∀ i, cf l i = 0
  | [], _, i => cf_nil i
  | a :: r, h, i => by
    have ha : a = 0 := by
      refine Decidable.byContradiction fun na => ?_
      have t0 := tot_nn r
      have a0 := absR_nn a
      have ap : 0 < absR a := by
        have := absR_self a
        grind
      -- x = |a| / (|a| + tot + 1)
      have dp : 0 < absR a + tot r + 1 := by grind
      have dne : absR a + tot r + 1 ≠ 0 := by grind
      have xe : absR a / (absR a + tot r + 1) * (absR a + tot r + 1) = absR a := by grind
      generalize absR a / (absR a + tot r + 1) = x at xe
      have xp : 0 < x := by
        refine Decidable.byContradiction fun n => ?_
        have : 0 ≤ -x * (absR a + tot r + 1) := mul_nn (by grind) (by grind)
        grind
      have x1 : x ≤ 1 := by
        refine Decidable.byContradiction fun n => ?_
        have : 0 ≤ (x - 1) * (absR a + tot r + 1) := mul_nn (by grind) (by grind)
        grind
      have xa : absR x = x := by unfold absR; rw [if_neg (by grind)]
      have e := h x (by grind)
      have s := ev_small (x := x) (by rw [xa]; exact x1) r
      have e' : a = -(x * ev r x) := by have : a + x * ev r x = 0 := e; grind
      have m := absR_mul_le (x := x) (y := ev r x) (z := x) (by rw [xa]; grind)
      have n1 : absR a = absR (x * ev r x) := by rw [e']; unfold absR; split <;> split <;> grind
      have q : 0 ≤ x * (tot r - absR (ev r x)) := mul_nn (by grind) (by grind)
      have q2 : 0 ≤ x * absR a := mul_nn (by grind) a0
      grind
    subst ha
    have hr : ∀ i, cf r i = 0 := ev_zero r fun x hx => by
      have e : 0 + x * ev r x = 0 := h x hx
      have e2 : x * ev r x = 0 := by grind
      grind
    rw [cf_cons]
    split
    · rfl
    · exact hr _
theorem ev_inj {a b : List Rat} (h : ∀ x, x ≠ 0 → ev a x = ev b x) (i : Nat) : cf a i = cf b i := by
  have z := ev_zero (padd a (pscale b (-1))) (fun x hx => by rw [ev_padd, ev_pscale, h x hx]; grind) i
  rw [cf_padd, show cf (pscale b (-1)) i = cf b i * (-1) from cf_map (f := (· * (-1))) (Rat.zero_mul _) b i] at z
  grind
end Vf

set_option maxRecDepth 100000
namespace Vf
/-! ### corners -/
def ch : Nat → Nat → Nat
  | _, 0 => 1
  | 0, _ + 1 => 0
  | n + 1, k + 1 => ch n k + ch n (k + 1)
theorem ch_zero (n : Nat) : ch n 0 = 1 := by cases n <;> rfl
theorem ch_step (n k : Nat) : ch (n + 1) (k + 1) = ch n k + ch n (k + 1) := rfl
theorem ch_over : ∀ {n k : Nat}, n < k → ch n k = 0
  | 0, k + 1, _ => rfl
  | n + 1, k + 1, h => by rw [ch_step, ch_over (by omega), ch_over (by omega)]
theorem ch_pos : ∀ {n k : Nat}, k ≤ n → 0 < ch n k
  | n, 0, _ => by rw [ch_zero]; decide
  | n + 1, k + 1, h => by rw [ch_step]; have := ch_pos (n := n) (k := k) (by omega); omega
theorem ch_le : ∀ (n k : Nat), ch n k ≤ 2 ^ n
  | n, 0 => by rw [ch_zero]; exact Nat.pow_pos (by decide)
  | 0, k + 1 => by show 0 ≤ _; omega
  | n + 1, k + 1 => by rw [ch_step, Nat.pow_succ]; have := ch_le n k; have := ch_le n (k + 1); omega
theorem ch_self : ∀ n, ch n n = 1
  | 0 => rfl
  | n + 1 => by rw [ch_step, ch_self n, ch_over (by omega)]
/-- the next of a row -/
def nx (b : Nat → Rat) : Nat → Rat := fun i => b (i + 1)
/-- the value of a row of corners, by the parts u and d -/
def bn : Nat → (Nat → Rat) → Rat → Rat → Rat
  | 0, b, _, _ => b 0
  | n + 1, b, u, d => d * bn n b u d + u * bn n (nx b) u d
theorem bn_ext {u d : Rat} : ∀ {n : Nat} {b c : Nat → Rat}, (∀ k, k ≤ n → b k = c k) → bn n b u d = bn n c u d
  | 0, b, c, h => h 0 (by omega)
  | n + 1, b, c, h => by
    show d * bn n b u d + u * bn n (nx b) u d = d * bn n c u d + u * bn n (nx c) u d
    rw [bn_ext (n := n) fun k hk => h k (by omega), bn_ext (n := n) (b := nx b) (c := nx c) fun k hk => h (k + 1) (by omega)]
theorem bn_mean {u d : Rat} : ∀ (n : Nat) (b c : Nat → Rat), bn n (fun k => (b k + c k) / 2) u d = (bn n b u d + bn n c u d) / 2
  | 0, b, c => rfl
  | n + 1, b, c => by
    show d * bn n _ u d + u * bn n (fun k => (nx b k + nx c k) / 2) u d = (d * bn n b u d + u * bn n (nx b) u d + (d * bn n c u d + u * bn n (nx c) u d)) / 2
    rw [bn_mean n b c, bn_mean n (nx b) (nx c)]
    grind
theorem bn_sum (u d : Rat) : ∀ (n : Nat) (b : Nat → Rat), sm (fun k => b k * (ch n k : Rat) * u ^ k * d ^ (n - k)) (n + 1) = bn n b u d
  | 0, b => by
    show 0 + b 0 * ((1 : Nat) : Rat) * u ^ 0 * d ^ 0 = b 0
    rw [Rat.pow_zero, Rat.pow_zero]
    grind
  | n + 1, b => by
    show _ = d * bn n b u d + u * bn n (nx b) u d
    rw [sm_head, ← bn_sum u d n b, ← bn_sum u d n (nx b)]
    have e1 : sm (fun i => b (i + 1) * (ch (n + 1) (i + 1) : Rat) * u ^ (i + 1) * d ^ (n + 1 - (i + 1))) (n + 1)
        = u * sm (fun k => nx b k * (ch n k : Rat) * u ^ k * d ^ (n - k)) (n + 1) + sm (fun i => b (i + 1) * (ch n (i + 1) : Rat) * u ^ (i + 1) * d ^ (n - i)) (n + 1) := by
      rw [← sm_mull, ← sm_addd]
      refine sm_ext fun i _ => ?_
      rw [ch_step, Rat.natCast_add, show n + 1 - (i + 1) = n - i by omega, Rat.pow_succ]
      show _ = u * (b (i + 1) * _ * _ * _) + _
      grind
    have e2 : sm (fun i => b (i + 1) * (ch n (i + 1) : Rat) * u ^ (i + 1) * d ^ (n - i)) (n + 1) = d * sm (fun i => b (i + 1) * (ch n (i + 1) : Rat) * u ^ (i + 1) * d ^ (n - (i + 1))) n := by
      rw [← sm_mull]
      show sm _ n + b (n + 1) * (ch n (n + 1) : Rat) * u ^ (n + 1) * d ^ (n - n) = _
      rw [ch_over (show n < n + 1 by omega)]
      rw [sm_ext (g := fun i => d * (b (i + 1) * (ch n (i + 1) : Rat) * u ^ (i + 1) * d ^ (n - (i + 1)))) fun i hi => by
        rw [show n - i = n - (i + 1) + 1 by omega, Rat.pow_succ]; grind]
      have : ((0 : Nat) : Rat) = 0 := rfl
      grind
    rw [e1, e2, sm_head (fun k => b k * (ch n k : Rat) * u ^ k * d ^ (n - k)), ch_zero, ch_zero, Nat.sub_zero, Nat.sub_zero, Rat.pow_succ d n, Rat.pow_zero]
    grind
/-! ### halves -/
def lowH : (Nat → Rat) → Nat → Rat
  | b, 0 => b 0
  | b, k + 1 => (lowH b k + lowH (nx b) k) / 2
theorem bn_low (u d : Rat) : ∀ (n : Nat) (b : Nat → Rat), bn n (lowH b) (2 * u) (d - u) = bn n b u d
  | 0, b => rfl
  | n + 1, b => by
    show (d - u) * bn n (lowH b) (2 * u) (d - u) + 2 * u * bn n (fun k => (lowH b k + lowH (nx b) k) / 2) (2 * u) (d - u) = d * bn n b u d + u * bn n (nx b) u d
    rw [bn_mean, bn_low u d n b, bn_low u d n (nx b)]
    grind
def upH (n : Nat) (b : Nat → Rat) (k : Nat) : Rat := lowH (fun i => b (i + k)) (n - k)
theorem nx_at (b : Nat → Rat) (k : Nat) : nx (fun i => b (i + k)) = fun i => nx b (i + k) := by
  funext i
  show b (i + 1 + k) = b (i + k + 1)
  rw [show i + 1 + k = i + k + 1 by omega]
theorem bn_up (u d : Rat) : ∀ (n : Nat) (b : Nat → Rat), bn n (upH n b) (u - d) (2 * d) = bn n b u d
  | 0, b => rfl
  | n + 1, b => by
    show 2 * d * bn n (upH (n + 1) b) (u - d) (2 * d) + (u - d) * bn n (nx (upH (n + 1) b)) (u - d) (2 * d) = d * bn n b u d + u * bn n (nx b) u d
    rw [bn_ext (n := n) (b := nx (upH (n + 1) b)) (c := upH n (nx b)) fun k hk => by
      show lowH (fun i => b (i + (k + 1))) (n + 1 - (k + 1)) = lowH (fun i => nx b (i + k)) (n - k)
      rw [show n + 1 - (k + 1) = n - k by omega]; rfl]
    rw [bn_ext (n := n) (b := upH (n + 1) b) (c := fun k => (upH n b k + upH n (nx b) k) / 2) fun k hk => by
      show lowH (fun i => b (i + k)) (n + 1 - k) = _
      rw [show n + 1 - k = (n - k) + 1 by omega]
      show (lowH (fun i => b (i + k)) (n - k) + lowH (nx fun i => b (i + k)) (n - k)) / 2 = _
      rw [nx_at]; rfl]
    rw [bn_mean, bn_up u d n b, bn_up u d n (nx b)]
    grind
/-! ### differences -/
def dl (b : Nat → Rat) : Nat → Nat → Rat
  | 0, m => b m
  | k + 1, m => dl b k (m + 1) - dl b k m
theorem dl_nx (b : Nat → Rat) : ∀ k m, dl (nx b) k m = dl b k (m + 1)
  | 0, m => rfl
  | k + 1, m => by show dl (nx b) k (m + 1) - dl (nx b) k m = _; rw [dl_nx b k, dl_nx b k]; rfl
def df (b : Nat → Rat) : Nat → Rat := fun i => b (i + 1) - b i
theorem dl_df (b : Nat → Rat) : ∀ k m, dl (df b) k m = dl b (k + 1) m
  | 0, m => rfl
  | k + 1, m => by show dl (df b) k (m + 1) - dl (df b) k m = _; rw [dl_df b k, dl_df b k]; rfl
theorem bn_sub {u d : Rat} : ∀ (n : Nat) (b c : Nat → Rat), bn n (fun k => b k - c k) u d = bn n b u d - bn n c u d
  | 0, b, c => rfl
  | n + 1, b, c => by
    show d * bn n _ u d + u * bn n (fun k => nx b k - nx c k) u d = (d * bn n b u d + u * bn n (nx b) u d) - (d * bn n c u d + u * bn n (nx c) u d)
    rw [bn_sub n b c, bn_sub n (nx b) (nx c)]
    grind
theorem bn_newton (u : Rat) : ∀ (n : Nat) (b : Nat → Rat), bn n b u (1 - u) = bn n (fun k => dl b k 0) u 1
  | 0, b => rfl
  | n + 1, b => by
    show (1 - u) * bn n b u (1 - u) + u * bn n (nx b) u (1 - u) = 1 * bn n (fun k => dl b k 0) u 1 + u * bn n (fun k => dl b (k + 1) 0) u 1
    have e : bn n (fun k => dl b (k + 1) 0) u 1 = bn n (df b) u (1 - u) := by
      rw [bn_newton u n (df b)]
      exact bn_ext fun k _ => (dl_df b k 0).symm
    rw [e, ← bn_newton u n b, show bn n (df b) u (1 - u) = bn n (nx b) u (1 - u) - bn n b u (1 - u) from bn_sub n (nx b) b]
    grind
theorem bn_powers (u : Rat) (n : Nat) (b : Nat → Rat) : bn n b u (1 - u) = sm (fun k => dl b k 0 * (ch n k : Rat) * u ^ k) (n + 1) := by
  rw [bn_newton, ← bn_sum]
  refine sm_ext fun k _ => ?_
  have : ∀ m : Nat, (1 : Rat) ^ m = 1 := fun m => by induction m with
    | zero => exact Rat.pow_zero _
    | succ m ih => rw [Rat.pow_succ, ih]; grind
  rw [this]
  grind
end Vf

set_option maxRecDepth 100000
namespace Vf
/-! ### a row moved: by whole numbers -/
def qi (l : List Int) : List Rat := l.map (fun n : Int => (n : Rat))
theorem qi_len (l : List Int) : (qi l).length = l.length := List.length_map ..
theorem cf_qi (l : List Int) (i : Nat) : cf (qi l) i = ((ci l i : Int) : Rat) := by
  unfold qi cf ci
  rw [List.getD_eq_getElem?_getD, List.getD_eq_getElem?_getD, List.getElem?_map]
  cases l[i]? <;> rfl
def hz (s : Int) : List Int → Int
  | [] => 0
  | a :: r => a + s * hz s r
def sufs (s : Int) : List Int → List Int
  | [] => []
  | a :: r => hz s (a :: r) :: sufs s r
theorem sufs_len (s : Int) : ∀ l, (sufs s l).length = l.length
  | [] => rfl
  | a :: r => by show (sufs s r).length + 1 = _; rw [sufs_len s r]; rfl
theorem sufs_drop (s : Int) : ∀ (l : List Int) (k : Nat), (sufs s l).drop k = sufs s (l.drop k)
  | [], k => by rw [List.drop_nil]; show ([] : List Int).drop k = []; rw [List.drop_nil]
  | a :: r, 0 => rfl
  | a :: r, k + 1 => sufs_drop s r k
theorem ev_sufs (s : Int) (x : Rat) : ∀ l : List Int, ev (qi (sufs s l)) x = (hz s l : Rat) + x * ev (qi (sufs s l).tail) x
  | [] => by show (0 : Rat) = ((0 : Int) : Rat) + x * 0; have : ((0 : Int) : Rat) = 0 := rfl; grind
  | a :: r => rfl
theorem ev_div (s : Int) (x : Rat) : ∀ l : List Int, ev (qi l) x = (hz s l : Rat) + (x - (s : Rat)) * ev (qi (sufs s l).tail) x
  | [] => by show (0 : Rat) = ((0 : Int) : Rat) + (x - (s : Rat)) * 0; have : ((0 : Int) : Rat) = 0 := rfl; grind
  | a :: r => by
    show (a : Rat) + x * ev (qi r) x = ((a + s * hz s r : Int) : Rat) + (x - (s : Rat)) * ev (qi (sufs s r)) x
    rw [ev_sufs s x r, ev_div s x r, Rat.intCast_add, Rat.intCast_mul]
    grind
/-- the state behind so many passes -/
def passN (s : Int) : Nat → List Int → List Int
  | 0, l => l
  | k + 1, l => (passN s k l).take k ++ sufs s ((passN s k l).drop k)
theorem passN_len (s : Int) : ∀ (k : Nat) (l : List Int), (passN s k l).length = l.length
  | 0, l => rfl
  | k + 1, l => by
    show ((passN s k l).take k ++ sufs s ((passN s k l).drop k)).length = _
    rw [List.length_append, sufs_len, ← List.length_append, List.take_append_drop, passN_len s k l]
theorem ev_app (x : Rat) (b : List Rat) : ∀ a : List Rat, ev (a ++ b) x = ev a x + x ^ a.length * ev b x
  | [] => by show ev b x = 0 + x ^ 0 * ev b x; rw [Rat.pow_zero]; grind
  | c :: a => by
    show c + x * ev (a ++ b) x = c + x * ev a x + x ^ (a.length + 1) * ev b x
    rw [ev_app x b a, Rat.pow_succ]; grind
theorem qi_app (a b : List Int) : qi (a ++ b) = qi a ++ qi b := List.map_append
theorem ev_pass (s : Int) (x : Rat) (l : List Int) : ∀ k, k ≤ l.length →
    ev (qi l) x = ev (qi ((passN s k l).take k)) (x - (s : Rat)) + (x - (s : Rat)) ^ k * ev (qi ((passN s k l).drop k)) x
  | 0, _ => by
    show _ = ev (qi (l.take 0)) _ + (x - (s : Rat)) ^ 0 * ev (qi (l.drop 0)) x
    rw [List.take_zero, List.drop_zero, Rat.pow_zero]
    show _ = 0 + 1 * _
    grind
  | k + 1, h => by
    rw [ev_pass s x l k (by omega)]
    have hl := passN_len s k l
    show _ = ev (qi (((passN s k l).take k ++ sufs s ((passN s k l).drop k)).take (k + 1))) _ + (x - (s : Rat)) ^ (k + 1) * ev (qi (((passN s k l).take k ++ sufs s ((passN s k l).drop k)).drop (k + 1))) x
    generalize passN s k l = m at hl
    have tk : (m.take k).length = k := by rw [List.length_take]; omega
    obtain ⟨a, r, er⟩ : ∃ a r, m.drop k = a :: r := by
      cases e : m.drop k with
      | nil => have := congrArg List.length e; rw [List.length_drop] at this; simp at this; omega
      | cons a r => exact ⟨a, r, rfl⟩
    rw [er]
    have e1 : (m.take k ++ sufs s (a :: r)).take (k + 1) = m.take k ++ [hz s (a :: r)] := by
      rw [List.take_append, tk, List.take_of_length_le (by omega), show k + 1 - k = 1 by omega]; rfl
    have e2 : (m.take k ++ sufs s (a :: r)).drop (k + 1) = sufs s r := by
      rw [List.drop_append, tk, List.drop_of_length_le (by omega), show k + 1 - k = 1 by omega]; rfl
    rw [e1, e2, qi_app, ev_app, qi_len, tk, ev_div s x (a :: r), Rat.pow_succ]
    show _ + _ * (_ + (x - (s : Rat)) * ev (qi (sufs s r)) x) = _ + _ * ((hz s (a :: r) : Rat) + (x - (s : Rat)) * 0) + _
    grind
/-- all passes -/
theorem ev_shift (s : Int) (x : Rat) (l : List Int) (h : 0 < l.length) : ev (qi (passN s (l.length - 1) l)) (x - (s : Rat)) = ev (qi l) x := by
  rw [ev_pass s x l (l.length - 1) (by omega)]
  have hl := passN_len s (l.length - 1) l
  generalize passN s (l.length - 1) l = m at hl
  have tk : (m.take (l.length - 1)).length = l.length - 1 := by rw [List.length_take]; omega
  obtain ⟨a, er⟩ : ∃ a, m.drop (l.length - 1) = [a] := by
    have := List.length_drop (i := l.length - 1) (l := m)
    match e : m.drop (l.length - 1) with
    | [] => rw [e] at this; simp at this; omega
    | [a] => exact ⟨a, rfl⟩
    | a :: b :: r => rw [e] at this; simp at this; omega
  have e : ev (qi m) (x - (s : Rat)) = ev (qi (m.take (l.length - 1) ++ m.drop (l.length - 1))) (x - (s : Rat)) := by rw [List.take_append_drop]
  rw [e, qi_app, ev_app, qi_len, tk, er]
  show _ + _ * ((a : Rat) + (x - (s : Rat)) * 0) = _ + _ * ((a : Rat) + x * 0)
  grind
/-! bounds: a number may be as great as N by R for each place behind it -/
def Bd (R N : Nat) : List Int → Prop
  | [] => True
  | a :: r => a.natAbs ≤ N * R ^ r.length ∧ Bd R N r
theorem Bd.of {R N : Nat} (hR : 0 < R) : ∀ {l : List Int}, (∀ i, (ci l i).natAbs ≤ N) → Bd R N l
  | [], _ => trivial
  | a :: r, h => ⟨Nat.le_trans (h 0) (Nat.le_mul_of_pos_right _ (Nat.pow_pos hR)), Bd.of hR fun i => h (i + 1)⟩
theorem Bd.le {R N N' : Nat} (hN : N ≤ N') : ∀ {l : List Int}, Bd R N l → Bd R N' l
  | [], _ => trivial
  | a :: r, h => ⟨Nat.le_trans h.1 (Nat.mul_le_mul_right _ hN), Bd.le hN h.2⟩
theorem Bd.at {R N : Nat} (hR : 0 < R) : ∀ {l : List Int}, Bd R N l → ∀ i, (ci l i).natAbs ≤ N * R ^ l.length
  | [], _, i => by show 0 ≤ _; omega
  | a :: r, h, 0 => Nat.le_trans h.1 (Nat.mul_le_mul_left _ (Nat.pow_le_pow_right hR (Nat.le_succ _)))
  | a :: r, h, i + 1 => Nat.le_trans (Bd.at hR h.2 i) (Nat.mul_le_mul_left _ (Nat.pow_le_pow_right hR (Nat.le_succ _)))
theorem hz_bd {R N : Nat} {s : Int} (hs : 2 * s.natAbs ≤ R) : ∀ {l : List Int}, Bd R N l → (hz s l).natAbs ≤ 2 * N * R ^ (l.length - 1)
  | [], _ => by show 0 ≤ _; omega
  | [a], h => by
    have := h.1
    show (a + s * 0).natAbs ≤ 2 * N * R ^ 0
    rw [Int.mul_zero, Int.add_zero, Nat.pow_zero]
    change a.natAbs ≤ N * R ^ 0 at this
    rw [Nat.pow_zero] at this
    omega
  | a :: b :: r, h => by
    have h1 := h.1
    have h2 := hz_bd hs h.2
    show (a + s * hz s (b :: r)).natAbs ≤ 2 * N * R ^ (r.length + 1)
    change a.natAbs ≤ N * R ^ (r.length + 1) at h1
    change (hz s (b :: r)).natAbs ≤ 2 * N * R ^ r.length at h2
    have h3 : (s * hz s (b :: r)).natAbs ≤ N * R ^ (r.length + 1) := by
      rw [Int.natAbs_mul]
      have m1 := Nat.mul_le_mul_left s.natAbs h2
      have m2 := Nat.mul_le_mul_right (N * R ^ r.length) hs
      have e1 : s.natAbs * (2 * N * R ^ r.length) = 2 * s.natAbs * (N * R ^ r.length) := by rw [Nat.mul_assoc 2 N, ← Nat.mul_assoc s.natAbs 2, Nat.mul_comm s.natAbs 2]
      have e2 : R * (N * R ^ r.length) = N * R ^ (r.length + 1) := by rw [Nat.pow_succ]; rw [Nat.mul_left_comm, Nat.mul_comm R]
      omega
    have := Int.natAbs_add_le a (s * hz s (b :: r))
    have e : 2 * N * R ^ (r.length + 1) = N * R ^ (r.length + 1) + N * R ^ (r.length + 1) := by rw [Nat.mul_assoc, Nat.two_mul]
    omega
theorem sufs_bd {R N : Nat} {s : Int} (hs : 2 * s.natAbs ≤ R) : ∀ {l : List Int}, Bd R N l → Bd R (2 * N) (sufs s l)
  | [], _ => trivial
  | a :: r, h => ⟨by rw [sufs_len]; exact hz_bd hs h, sufs_bd hs h.2⟩
theorem Bd.app {R N : Nat} : ∀ {a b : List Int}, Bd R N (a ++ b) → ∀ {c : List Int}, c.length = b.length → ∀ {N' : Nat}, N ≤ N' → Bd R N' c → Bd R N' (a ++ c)
  | [], b, h, c, e, N', hN, hc => hc
  | x :: a, b, h, c, e, N', hN, hc => ⟨by
      have h1 : x.natAbs ≤ N * R ^ (a ++ b).length := h.1
      rw [List.length_append] at h1
      show x.natAbs ≤ N' * R ^ (a ++ c).length
      rw [List.length_append, e]
      exact Nat.le_trans h1 (Nat.mul_le_mul_right _ hN), Bd.app (a := a) (b := b) h.2 e hN hc⟩
theorem Bd.drop {R N : Nat} : ∀ {l : List Int} (k : Nat), Bd R N l → Bd R N (l.drop k)
  | [], k, _ => by rw [List.drop_nil]; trivial
  | a :: r, 0, h => h
  | a :: r, k + 1, h => Bd.drop (l := r) k h.2
theorem pass_bd {R N : Nat} {s : Int} (hs : 2 * s.natAbs ≤ R) {l : List Int} (h : Bd R N l) : ∀ k, Bd R (2 ^ k * N) (passN s k l)
  | 0 => by rw [Nat.pow_zero, Nat.one_mul]; exact h
  | k + 1 => by
    have ih := pass_bd hs h k
    show Bd R (2 ^ (k + 1) * N) ((passN s k l).take k ++ sufs s ((passN s k l).drop k))
    have e : 2 ^ (k + 1) * N = 2 * (2 ^ k * N) := by rw [Nat.pow_succ, Nat.mul_comm (2 ^ k) 2, Nat.mul_assoc]
    rw [e]
    refine Bd.app (b := (passN s k l).drop k) (by rw [List.take_append_drop]; exact ih) (sufs_len _ _) (by omega) (sufs_bd hs (ih.drop k))
/-! ### numbers added to their forerunners -/
def acc : Nat → (Nat → Int) → Nat → Int
  | 0, f => f
  | m + 1, f => fun j => if j < m + 1 then acc m f j else acc m f j + acc m f (j - 1)
theorem acc_dl {f : Nat → Int} {b : Nat → Rat} {S : Rat} {n : Nat} (h : ∀ k, k ≤ n → (f k : Rat) = S * dl b k 0) : ∀ m j, j ≤ n → (acc m f j : Rat) = if j < m then S * b j else S * dl b (j - m) m
  | 0, j, hj => by rw [if_neg (by omega)]; exact h j hj
  | m + 1, j, hj => by
    show (((if j < m + 1 then acc m f j else acc m f j + acc m f (j - 1)) : Int) : Rat) = _
    by_cases h1 : j < m + 1
    · rw [if_pos h1, if_pos h1, acc_dl h m j hj]
      by_cases h2 : j < m
      · rw [if_pos h2]
      · rw [if_neg h2, show j = m by omega, Nat.sub_self]; rfl
    · rw [if_neg h1, if_neg h1, Rat.intCast_add, acc_dl h m j hj, acc_dl h m (j - 1) (by omega), if_neg (by omega), if_neg (by omega)]
      rw [show j - m = (j - (m + 1)) + 1 by omega, show j - 1 - m = j - (m + 1) by omega]
      show S * (dl b (j - (m + 1)) (m + 1) - dl b (j - (m + 1)) m) + _ = _
      grind
theorem acc_all {f : Nat → Int} {b : Nat → Rat} {S : Rat} {n : Nat} (h : ∀ k, k ≤ n → (f k : Rat) = S * dl b k 0) {j : Nat} (hj : j ≤ n) : (acc n f j : Rat) = S * b j := by
  rw [acc_dl h n j hj]
  by_cases h1 : j < n
  · rw [if_pos h1]
  · rw [if_neg h1, show j = n by omega, Nat.sub_self]; rfl
theorem acc_bd {f : Nat → Int} {N : Nat} (h : ∀ j, (f j).natAbs ≤ N) : ∀ m j, (acc m f j).natAbs ≤ 2 ^ m * N
  | 0, j => by rw [Nat.pow_zero, Nat.one_mul]; exact h j
  | m + 1, j => by
    have a := acc_bd h m j
    have b := acc_bd h m (j - 1)
    have e : 2 ^ (m + 1) * N = 2 ^ m * N + 2 ^ m * N := by rw [Nat.pow_succ, Nat.mul_comm (2 ^ m) 2, Nat.mul_assoc, Nat.two_mul]
    show (if j < m + 1 then acc m f j else acc m f j + acc m f (j - 1)).natAbs ≤ _
    split
    · omega
    · have := Int.natAbs_add_le (acc m f j) (acc m f (j - 1)); omega
/-! ### sums for the halves -/
def Ls (w : Nat → Int) : Nat → Nat → Int
  | 0, i => w i
  | j + 1, i => Ls w j i + Ls w j (i + 1)
theorem Ls_low {w : Nat → Int} {b : Nat → Rat} {S : Rat} {n : Nat} (h : ∀ k, k ≤ n → (w k : Rat) = S * b k) : ∀ k m, k + m ≤ n → (Ls w k m : Rat) = S * 2 ^ k * lowH (fun i => b (i + m)) k
  | 0, m, hk => by
    show (w m : Rat) = S * 2 ^ 0 * b (0 + m)
    rw [Nat.zero_add, Rat.pow_zero, h m (by omega)]; grind
  | k + 1, m, hk => by
    show ((Ls w k m + Ls w k (m + 1) : Int) : Rat) = S * 2 ^ (k + 1) * ((lowH (fun i => b (i + m)) k + lowH (nx fun i => b (i + m)) k) / 2)
    rw [Rat.intCast_add, Ls_low h k m (by omega), Ls_low h k (m + 1) (by omega), Rat.pow_succ]
    have : (nx fun i => b (i + m)) = fun i => b (i + (m + 1)) := by
      funext i
      show b (i + 1 + m) = b (i + (m + 1))
      rw [show i + 1 + m = i + (m + 1) by omega]
    rw [this]
    grind
theorem Ls_bd {w : Nat → Int} {N : Nat} (h : ∀ j, (w j).natAbs ≤ N) : ∀ k m, (Ls w k m).natAbs ≤ 2 ^ k * N
  | 0, m => by rw [Nat.pow_zero, Nat.one_mul]; exact h m
  | k + 1, m => by
    have a := Ls_bd h k m
    have b := Ls_bd h k (m + 1)
    have e : 2 ^ (k + 1) * N = 2 ^ k * N + 2 ^ k * N := by rw [Nat.pow_succ, Nat.mul_comm (2 ^ k) 2, Nat.mul_assoc, Nat.two_mul]
    show (Ls w k m + Ls w k (m + 1)).natAbs ≤ _
    have := Int.natAbs_add_le (Ls w k m) (Ls w k (m + 1)); omega
end Vf

set_option maxRecDepth 100000
set_option maxHeartbeats 4000000
/-! math.comb -/
namespace Vf
open PySem PySem.Spec PyProof.Rows L2
theorem comb_ch : ∀ n : Fin 61, ∀ k : Fin 61, k.val ≤ n.val → PySem.W.mcComb (n.val : Int) (k.val : Int) = (ch n.val k.val : Int) := by decide +kernel
section
variable {X : Cx}
def rComb : List V → Hp → VK → Prop := fun vs H Q => ∃ n k : Nat, vs = [.int (n : Int), .int (k : Int)] ∧ n ≤ 60 ∧ k ≤ n ∧ Q (.int ((ch n k : Nat) : Int)) H
theorem cr_comb : CallR X (.builtin "math.comb") rComb := by
  intro pins s σ H vs us Q I r h
  obtain ⟨n, k, rfl, hn, hk, q⟩ := h
  obtain ⟨t, u, rfl⟩ := Vals.int2 r
  have e := comb_ch ⟨n, by omega⟩ ⟨k, by omega⟩ hk
  refine PySem.call_function_meets PySem.W.MGF.kind_comb PySem.W.MGF.plain_comb PySem.W.MGF.entry_comb (PySem.W.MGF.args_comb _ _) (PySem.W.mc_gives_comb t u (by omega) (by omega) (by omega) (by omega)).meets ?_
  rw [e]
  exact ⟨.int _, H, I.tok _, ⟨_, rfl⟩, q⟩
end
end Vf

set_option maxRecDepth 100000
set_option maxHeartbeats 4000000
/-! zip and enumerate over lists and tuples alike, in loops and comprehensions -/
namespace Vf
open PySem PySem.Spec PyProof.Rows L2
/-- a list (true) or a tuple (false) of these items -/
def SqB (p : Bool) (K : PySem.W.Frag) (H : Hp) (a : Addr) (xs : List V) : Prop := match p with
  | true => SqL K H a xs
  | false => SqT K H a xs
def ItB (p : Bool) (h : Heap) (it a : Addr) (i : Nat) : Prop := match p with
  | true => h.IsListIter it a i
  | false => h.IsTupleIter it a i
def ArB (p : Bool) (h : Heap) (a : Addr) (items : Array Value) : Prop := match p with
  | true => h.IsList a items
  | false => h.IsTuple a items
theorem sqB_or {K : PySem.W.Frag} {H : Hp} {a : Addr} {xs : List V} (h : SqL K H a xs ∨ SqT K H a xs) : ∃ p, SqB p K H a xs := by
  rcases h with h | h
  · exact ⟨true, h⟩
  · exact ⟨false, h⟩
theorem sqB_to {p : Bool} {K : PySem.W.Frag} {H : Hp} {a : Addr} {xs : List V} (h : SqB p K H a xs) : SqL K H a xs ∨ SqT K H a xs := by
  cases p
  · exact .inr h
  · exact .inl h
theorem SqB.same {p : Bool} {K : PySem.W.Frag} {H H' : Hp} {a : Addr} {xs : List V} (h : SqB p K H a xs) (s : Same H H') : SqB p K H' a xs := by
  cases p
  · exact same_sqT s h
  · exact same_sqL s h
theorem drawsB {prog : Program} {w : World} {A : Around} (p : Bool) (hh : A.handled = none) (it l : Addr) (hne : l ≠ it) (items : Array Value) :
    Draws prog w A it [it, l] items.size (fun i v => items[i]? = some v) (fun i h => ItB p h it l i ∧ ArB p h l items) := by
  cases p
  · exact Draws.tuple hh it l hne items
  · exact Draws.list hh it l hne items
def obB (p : Bool) (a : Addr) : Obj := match p with
  | true => { cls := .type "list_iterator", data := .fields #[.ref a, .int 0 0] }
  | false => { cls := .type "tuple_iterator", data := .fields #[.ref a, .int 0 0] }
theorem beginsB (p : Bool) (a : Addr) (items : Array Value) : Begins (.ref a) (obB p a) fun h => ArB p h a items := by
  cases p
  · exact begins_tuple a items
  · exact begins_list a items
theorem itB_of {p : Bool} {h : Heap} {it a : Addr} (e : h.get? it = some (obB p a)) : ItB p h it a 0 := by
  cases p
  · exact ⟨_, e, rfl, rfl⟩
  · exact ⟨_, e, rfl, rfl⟩
theorem ItB.at {p : Bool} {h h' : Heap} {it a : Addr} {i : Nat} (st : ItB p h it a i) (k : ∀ o, h.get? it = some o → h'.get? it = some o) : ItB p h' it a i := by
  cases p
  · exact Heap.IsTupleIter.at st k
  · exact Heap.IsListIter.at st k
theorem ItB.obj {p : Bool} {h : Heap} {it a : Addr} {i : Nat} (st : ItB p h it a i) : ∃ o, h.get? it = some o ∧ ∀ v, o.data ≠ .cell v := by
  cases p
  · obtain ⟨o, e, _, d⟩ := st
    exact ⟨o, e, fun v z => by rw [d] at z; cases z⟩
  · obtain ⟨o, e, _, d⟩ := st
    exact ⟨o, e, fun v z => by rw [d] at z; cases z⟩
section
variable {X : Cx} {pins : List (Addr × Obj)} {σ : L2.St} {H : Hp} {s : Shared}
theorem seqB (I : Inv X pins σ H s) {p : Bool} {a : Addr} {xs : List V} (h : SqB p X.K H a xs) : ∃ its : List Value, Vals xs its ∧ ArB p s.heap a its.toArray := by
  cases p
  · obtain ⟨its, rv, q, _⟩ := I.tuple h
    exact ⟨its, rv, q⟩
  · obtain ⟨its, rv, q, _⟩ := I.list h
    exact ⟨its, rv, q.isList⟩
theorem seqB_inj (I : Inv X pins σ H s) {p : Bool} {a : Addr} {xs ys : List V} (h1 : SqB p X.K H a xs) (h2 : SqB p X.K H a ys) : xs = ys := by
  cases p
  · exact I.tuple_inj h1 h2
  · exact I.list_inj h1 h2
theorem ArB.lt {p : Bool} {h : Heap} {a : Addr} {its : Array Value} (q : ArB p h a its) : a < h.objs.size := by
  cases p
  · obtain ⟨o, e, _⟩ := q
    exact Heap.lt_size e
  · obtain ⟨o, e, _⟩ := q
    exact Heap.lt_size e
end
/-- the lists or tuples at a and b as they stand at each turn, the items in new pairs -/
def ItzB (p q : Bool) (K : PySem.W.Frag) (a b : Addr) : It :=
  ⟨fun i H => ∃ (xs ys : List V) (x y : V), SqB p K H a xs ∧ SqB q K H b ys ∧ xs[i]? = some x ∧ ys[i]? = some y,
    fun i H v H' => ∃ T x y, v = .ref T ∧ H T = none ∧ H' = upd H T (.tup [x, y]) ∧ (∀ xs, SqB p K H a xs → xs[i]? = some x) ∧ ∀ ys, SqB q K H b ys → ys[i]? = some y,
    fun i H => ∃ xs ys : List V, SqB p K H a xs ∧ SqB q K H b ys ∧ i ≤ xs.length ∧ i ≤ ys.length ∧ (xs.length = i ∨ ys.length = i)⟩
theorem sepB {a b z TI TO i1 i2 : Addr} (D : ZipApart z TI TO i1 i2 a b) : ZipSep2 z TI TO i1 i2 [i1, a] [i2, b] where
  TIz := D.TIz
  TOz := D.TOz
  TITO := D.TITO
  TIi1 := D.TIi1
  mem1 := by simp
  zf1 := by simp [D.i1z.symm, D.l1z.symm]
  Tf1 := by simp [D.TOi1, D.l1TO.symm]
  TIi2 := D.TIi2
  mem2 := by simp
  zf2 := by simp [D.i2z.symm, D.l2z.symm]
  Tf2 := by simp [D.TOi2, D.l2TO.symm]
  sep1_2 := by simp [D.i12, D.l2i1.symm]
  sep2_1 := by simp [D.i12.symm, D.l1i2.symm]
theorem turn_zipB {P : Program} {w : World} {K : PySem.W.Frag} {elts : List Expr} {kk : Nat} {tpos : Pos} (p q : Bool) {a b z TI TO i1 i2 : Addr} (D : ZipApart z TI TO i1 i2 a b) :
    Turn P w K (.Tuple elts kk tpos) (ItzB p q K a b) [z, TI, TO, i1, i2] z (fun i h => IsZip h z TI TO .none ∧ IsPair h TI (.ref i1) (.ref i2) ∧ (∃ x y, IsPair h TO x y) ∧ ItB p h i1 a i ∧ ItB q h i2 b i) where
  mem := by simp
  obj := fun i h st c hc => by
    obtain ⟨hz, hTI, ⟨x, y, hTO⟩, h1, h2⟩ := st
    have e' : c = z ∨ c = TI ∨ c = TO ∨ c = i1 ∨ c = i2 := by simpa using hc
    rcases e' with q | q | q | q | q
    · rw [q]; exact ⟨_, hz, fun v q => nomatch q⟩
    · rw [q]; exact ⟨_, hTI, fun v q => nomatch q⟩
    · rw [q]; exact ⟨_, hTO, fun v q => nomatch q⟩
    · rw [q]; exact h1.obj
    · rw [q]; exact h2.obj
  keep := fun i h h' st k => by
    obtain ⟨hz, hTI, ⟨x, y, hTO⟩, h1, h2⟩ := st
    exact ⟨k z (by simp) _ hz, k TI (by simp) _ hTI, ⟨x, y, k TO (by simp) _ hTO⟩, h1.at fun o q => k i1 (by simp) o q, h2.at fun o q => k i2 (by simp) o q⟩
  item := by
    intro X hP hw hK hc i pins s σ H E I hf st hg
    subst hP hw hK
    obtain ⟨hz, hTI, ⟨x0, y0, hTO⟩, h1, h2⟩ := st
    obtain ⟨xs, ys, x, y, hqx, hqy, hx, hy⟩ := hg
    obtain ⟨its, rv, p1⟩ := seqB I hqx
    obtain ⟨its2, rv2, p2⟩ := seqB I hqy
    obtain ⟨u, hu, ru⟩ := rv.get hx
    obtain ⟨u2, hu2, ru2⟩ := rv2.get hy
    have hzl : z < s.heap.objs.size := Heap.lt_size hz
    have hh : X.A.in1.handled = none := I.ok.hd hc
    have l1 : i < its.toArray.size := by
      have := (List.getElem?_eq_some_iff.mp hu).1
      simpa using this
    have l2 : i < its2.toArray.size := by
      have := (List.getElem?_eq_some_iff.mp hu2).1
      simpa using this
    refine wpAny_pyNext_zipD2_item (sepB D) (drawsB p hh i1 a D.l1i1 its.toArray) (drawsB q hh i2 b D.l2i2 its2.toArray) hz hTI hTO ⟨h1, p1⟩ ⟨h2, p2⟩ l1 l2 fun u' u2' h' tk e1 e2 z' TO' h1' h2' hT hsz hk => ?_
    have eu : u' = u := by
      rw [List.getElem?_toArray, hu] at e1
      exact (Option.some.inj e1).symm
    have eu2 : u2' = u2 := by
      rw [List.getElem?_toArray, hu2] at e2
      exact (Option.some.inj e2).symm
    subst eu eu2
    refine ⟨_, rfl, wpAny_letOwnedTupleGo_zip (s := { s with heap := h', toks := tk }) z' fun h'' z'' sb => ?_⟩
    have hT2 : h''.get? s.heap.objs.size = some { cls := .type "tuple", data := .seq #[u', u2'] } := (sb.2 _ (Nat.ne_of_gt hzl)).trans hT
    have new : ObjOk X.prog X.w (upd H s.heap.objs.size (.tup [x, y])) h'' s.heap.objs.size (.tup [x, y]) :=
      ⟨by show 2 ≤ sizeLine; decide, [u', u2'], .cons ru (.cons ru2 .nil), ⟨_, hT2, rfl, _, rfl⟩⟩
    have I1 : Inv X pins σ (upd H s.heap.objs.size (.tup [x, y])) { s with heap := h'', toks := tk } :=
      I.turnedNew (t' := tk) (ch := [z, TI, TO, i1, i2]) (fun c o hb q => (sb.2 c (fun q' => hb (by simp [q']))).trans (hk c o (fun q' => hb (by simp [q'])) (fun q' => hb (by simp [q'])) (fun q' => hb (by simp [q'])) (fun q' => hb (by simp [q'])) q)) hf (Nat.le_refl _) new
    refine ⟨.ref s.heap.objs.size, _, I1, rfl, ⟨_, x, y, rfl, I.hok.fresh (Nat.le_refl _), rfl, fun l hl => by rw [seqB_inj I hl hqx]; exact hx, fun l hl => by rw [seqB_inj I hl hqy]; exact hy⟩, ⟨z'', ?_, ⟨u', u2', ?_⟩, ?_, ?_⟩, fun c hcm => ?_⟩
    · exact (sb.2 _ D.TIz).trans (hk _ _ D.TIz D.TITO D.TIi1 D.TIi2 hTI)
    · exact (sb.2 _ D.TOz).trans TO'
    · exact h1'.1.at fun o q => (sb.2 _ D.i1z).trans q
    · exact h2'.1.at fun o q => (sb.2 _ D.i2z).trans q
    · have hlt : c < s.heap.objs.size := by
        have e' : c = z ∨ c = TI ∨ c = TO ∨ c = i1 ∨ c = i2 := by simpa using hcm
        rcases e' with q | q | q | q | q
        · rw [q]; exact hzl
        · rw [q]; exact Heap.lt_size hTI
        · rw [q]; exact Heap.lt_size hTO
        · rw [q]; obtain ⟨_, e1, _⟩ := h1.obj; exact Heap.lt_size e1
        · rw [q]; obtain ⟨_, e1, _⟩ := h2.obj; exact Heap.lt_size e1
      rw [upd_ne (Nat.ne_of_lt hlt)]
      exact (hf c hcm).1
  done := by
    intro X hP hw hK hc i pins s σ H E I hf st hg
    subst hP hw hK
    obtain ⟨hz, hTI, ⟨x0, y0, hTO⟩, h1, h2⟩ := st
    obtain ⟨xs, ys, hqx, hqy, le1, le2, hend⟩ := hg
    obtain ⟨its, rv, p1⟩ := seqB I hqx
    obtain ⟨its2, rv2, p2⟩ := seqB I hqy
    have l1 := rv.length
    have l2 := rv2.length
    have hh : X.A.in1.handled = none := I.ok.hd hc
    have s1 : its.toArray.size = its.length := by simp
    have s2 : its2.toArray.size = its2.length := by simp
    refine wpAny_pyNext_zipD2_end (sepB D) (drawsB p hh i1 a D.l1i1 its.toArray) (drawsB q hh i2 b D.l2i2 its2.toArray) hz hTI hTO ⟨h1, p1⟩ ⟨h2, p2⟩ (by rw [s1]; omega) (by rw [s2]; omega) (by rw [s1, s2]; omega) fun h' tk hk => ⟨rfl, I.turnedL (t' := tk) (ch := [z, TI, TO, i1, i2]) (fun c o hb q =>
      hk c o (fun q' => hb (by simp [q'])) (fun q' => hb (by simp [q'])) (fun q' => hb (by simp [q'])) (fun q' => hb (by simp [q'])) q) hf⟩
  self := fun A i s Q E st h => wpAny_pyIter_zip st.1 h
def iZipB (K : PySem.W.Frag) (ta : TA) : TI := fun σ H R => ta σ H fun vs H1 => ∃ p q a b xs ys, vs = [.ref a, .ref b] ∧ SqB p K H1 a xs ∧ SqB q K H1 b ys ∧ R (ItzB p q K a b) H1
theorem pi_zipB {X : Cx} {e e2 : Expr} {ta : TA} {p pos tpos : Pos} {elts : List Expr} {kk : Nat} (hg : Gl X "zip") (hm : X.mg "zip" = none) (ha : PA X [e, e2] ta)
    (hs : starEach [e, e2] X.env = (false, eval e X.env) :: starEach [e2] X.env := by rfl) (hpl : (backTo pos (starEach [e2] X.env)).any (·.1) = false := by rfl) :
    PI X (.Tuple elts kk tpos) (.Call (.Name "zip" p) [e, e2] [] pos) (iZipB X.K ta) := by
  refine ⟨fun pins s σ H R I h => ?_⟩
  refine Call_ (ld_blt I hg hm PyProof.Rows.boot_zip (PyProof.Rows.callWith_type1 (thn (ha.run pos pins s σ H _ I h) fun us s1 ⟨vs, H1, I1, r1, q1⟩ => ?_) hs hpl))
  obtain ⟨p, q, a, b, xs, ys, ex, hqx, hqy, g⟩ := q1
  subst ex
  cases r1 with
  | cons r rr =>
    cases rr with
    | cons r' rr =>
      cases rr
      cases r
      cases r'
      have fresh5 : ∀ c, c ∈ [s1.heap.objs.size + 4, s1.heap.objs.size + 2, s1.heap.objs.size + 3, s1.heap.objs.size, s1.heap.objs.size + 1] → FpOk X pins H1 c := fun c hcm => by
        have e' : c = s1.heap.objs.size + 4 ∨ c = s1.heap.objs.size + 2 ∨ c = s1.heap.objs.size + 3 ∨ c = s1.heap.objs.size ∨ c = s1.heap.objs.size + 1 := by simpa using hcm
        have hle : s1.heap.objs.size ≤ c := by
          rcases e' with z | z | z | z | z
          · rw [z]; exact Nat.le_add_right _ _
          · rw [z]; exact Nat.le_add_right _ _
          · rw [z]; exact Nat.le_add_right _ _
          · rw [z]; exact Nat.le_refl _
          · rw [z]; exact Nat.le_add_right _ _
        exact I1.fpOk hle (I1.hok.fresh hle)
      obtain ⟨its, rv, p1⟩ := seqB I1 hqx
      obtain ⟨its2, rv2, p2⟩ := seqB I1 hqy
      refine zip_begins2 (beginsB p a its.toArray) (beginsB q b its2.toArray) p1 p2 fun h' hz hTI hTO h1 h2 hsz hk => wpAny_pyIter_zip hz ?_
      have I2 : Inv X pins σ H1 { s1 with heap := h' } := I1.kept (t' := s1.toks) hk
      exact ⟨s1.heap.objs.size + 4, [s1.heap.objs.size + 4, s1.heap.objs.size + 2, s1.heap.objs.size + 3, s1.heap.objs.size, s1.heap.objs.size + 1], _, _, H1, rfl, I2, turn_zipB p q (PySem.W.ktu_apart s1.heap.objs.size a b p1.lt p2.lt), ⟨hz, hTI, ⟨_, _, hTO⟩, itB_of h1, itB_of h2⟩, fresh5, g⟩
/-- a comprehension over zip of two rows alike in length -/
theorem lc_zipB {p q : Bool} {K : PySem.W.Frag} {a b : Addr} {xs ys : List V} {g : TG} {tt : TT} {te : TE} {vs : List Nat} {σ : L2.St} {H1 : Hp} {D : Addr} {Qd : Hp → Prop} (hl : xs.length = ys.length) (Pv : Nat → Hp → Prop) (h0 : Pv 0 (upd H1 D (.lst [])))
    (hq : ∀ i H, Pv i H → SqB p K H a xs ∧ SqB q K H b ys)
    (hs : ∀ (i : Nat) (x y : V) (T : Addr) (H : Hp), xs[i]? = some x → ys[i]? = some y → Pv i H → H T = none → g (.ref T) (wipe σ vs) (upd H T (.tup [x, y])) fun σ2 H2 => wipe σ2 vs = wipe σ vs ∧ tt σ2 H2 fun b H3 =>
      if b = true then te σ2 H3 fun y H4 => ∃ acc, H4 D = some (.lst acc) ∧ acc.length < sizeLine ∧ Pv (i + 1) (upd H4 D (.lst (acc ++ [y]))) else Pv (i + 1) H3) (hd : ∀ H, Pv xs.length H → Qd H) :
    ∃ W : Nat → Nat → Hp → Prop, (∃ m, W 0 m (upd H1 D (.lst []))) ∧ ∀ i m H, W i m H →
      (((ItzB p q K a b).stop i H ∧ Qd H) ∨ ((ItzB p q K a b).go i H ∧ ∃ Nx : Hp → Prop, (∀ H', Nx H' → ∃ m', m' < m ∧ W (i + 1) m' H') ∧ ∀ x H', (ItzB p q K a b).yld i H x H' → g x (wipe σ vs) H' fun σ2 H2 => wipe σ2 vs = wipe σ vs ∧ tt σ2 H2 fun b H3 =>
        if b = true then te σ2 H3 fun y H4 => ∃ acc, H4 D = some (.lst acc) ∧ acc.length < sizeLine ∧ Nx (upd H4 D (.lst (acc ++ [y]))) else Nx H3)) := by
  refine ⟨fun i m H => m = xs.length - i ∧ i ≤ xs.length ∧ Pv i H, ⟨xs.length, by simp, Nat.zero_le _, h0⟩, ?_⟩
  rintro i m H ⟨rfl, hi, pv⟩
  obtain ⟨qx, qy⟩ := hq i H pv
  by_cases hlt : i < xs.length
  · have hx : xs[i]? = some xs[i] := List.getElem?_eq_getElem hlt
    have hlt2 : i < ys.length := by omega
    have hy : ys[i]? = some ys[i] := List.getElem?_eq_getElem hlt2
    refine .inr ⟨⟨xs, ys, xs[i], ys[i], qx, qy, hx, hy⟩, Pv (i + 1), fun H' p' => ⟨xs.length - (i + 1), by omega, rfl, hlt, p'⟩, fun v H' y => ?_⟩
    obtain ⟨T, x', y', e1, n, e2, h1, h2⟩ := y
    rw [e1, e2]
    exact hs i x' y' T H (h1 xs qx) (h2 ys qy) pv n
  · have e : i = xs.length := by omega
    subst e
    exact .inl ⟨⟨xs, ys, qx, qy, Nat.le_refl _, by omega, .inl rfl⟩, hd H pv⟩
/-- a loop over zip of two rows alike in length -/
theorem for_zipB {p q : Bool} {K : PySem.W.Frag} {a b : Addr} {xs ys : List V} {g : TG} {tb : TS} {D : Ends} {σ : L2.St} {H : Hp} (hl : xs.length = ys.length) (Pv : Nat → L2.St → Hp → Prop) (h0 : Pv 0 σ H) (hq : ∀ i σ H, Pv i σ H → SqB p K H a xs ∧ SqB q K H b ys)
    (hs : ∀ (i : Nat) (x y : V) (T : Addr) (σ : L2.St) (H : Hp), xs[i]? = some x → ys[i]? = some y → Pv i σ H → H T = none → g (.ref T) σ (upd H T (.tup [x, y])) fun σ2 H2 => tb { D with nx := Pv (i + 1), ct := Pv (i + 1), bk := D.nx } σ2 H2) (hd : ∀ σ H, Pv xs.length σ H → D.nx σ H) :
    ∃ W : Nat → Nat → L2.St → Hp → Prop, (∃ m, W 0 m σ H) ∧ ∀ i m σ H, W i m σ H →
      ((ItzB p q K a b).stop i H ∧ D.nx σ H) ∨ ((ItzB p q K a b).go i H ∧ ∃ N : L2.St → Hp → Prop, (∀ σ' H', N σ' H' → ∃ m', m' < m ∧ W (i + 1) m' σ' H') ∧ ∀ v H', (ItzB p q K a b).yld i H v H' → g v σ H' fun σ2 H2 => tb { D with nx := N, ct := N, bk := D.nx } σ2 H2) := by
  refine ⟨fun i m σ H => m = xs.length - i ∧ i ≤ xs.length ∧ Pv i σ H, ⟨xs.length, rfl, Nat.zero_le _, h0⟩, ?_⟩
  rintro i m σ H ⟨rfl, hi, pv⟩
  obtain ⟨qx, qy⟩ := hq i σ H pv
  by_cases hlt : i < xs.length
  · have hx : xs[i]? = some xs[i] := List.getElem?_eq_getElem hlt
    have hlt2 : i < ys.length := by omega
    have hy : ys[i]? = some ys[i] := List.getElem?_eq_getElem hlt2
    refine .inr ⟨⟨xs, ys, _, _, qx, qy, hx, hy⟩, Pv (i + 1), fun σ' H' p' => ⟨xs.length - (i + 1), by omega, rfl, hlt, p'⟩, fun v H' y => ?_⟩
    obtain ⟨T, x', y', rfl, hT, rfl, f1, f2⟩ := y
    exact hs i x' y' T σ H (f1 xs qx) (f2 ys qy) pv hT
  · have e : i = xs.length := by omega
    subst e
    exact .inl ⟨⟨xs, ys, qx, qy, Nat.le_refl _, by omega, .inl rfl⟩, hd σ H pv⟩
/-! ### enumerate -/
def IteB (p : Bool) (K : PySem.W.Frag) (a : Addr) : It :=
  ⟨fun i H => ∃ (xs : List V) (x : V), SqB p K H a xs ∧ xs[i]? = some x, fun i H v H' => ∃ T x, v = .ref T ∧ H T = none ∧ H' = upd H T (.tup [.int (i : Nat), x]) ∧ ∀ xs, SqB p K H a xs → xs[i]? = some x, fun i H => ∃ xs : List V, SqB p K H a xs ∧ xs.length = i⟩
theorem turn_enumB {P : Program} {w : World} {K : PySem.W.Frag} {elts : List Expr} {kk : Nat} {tpos : Pos} (p : Bool) (a e it : Addr) (hae : a ≠ e) (hai : a ≠ it) :
    Turn P w K (.Tuple elts kk tpos) (IteB p K a) [e, it] e (fun i h => (∃ old, IsEnum h e it ((i : Nat) : Int) old) ∧ ItB p h it a i ∧ e ≠ it) where
  mem := by simp
  obj := fun i h st b hb => by
    obtain ⟨⟨old, he⟩, h1, _⟩ := st
    have e' : b = e ∨ b = it := by simpa using hb
    rcases e' with z | z
    · rw [z]; exact ⟨_, he, fun v q => nomatch q⟩
    · rw [z]; exact h1.obj
  keep := fun i h h' st k => let ⟨⟨old, he⟩, hi, hne⟩ := st; ⟨⟨old, k e (by simp) _ he⟩, hi.at fun o q => k it (by simp) o q, hne⟩
  item := by
    intro X hP hw hK hc i pins s σ H E I hf st hg
    subst hP hw hK
    obtain ⟨⟨old, he⟩, hit, hne⟩ := st
    obtain ⟨xs, x, hq, hx⟩ := hg
    obtain ⟨its, rv, p1⟩ := seqB I hq
    obtain ⟨u, hu, ru⟩ := rv.get hx
    have hel : e < s.heap.objs.size := Heap.lt_size he
    have hil : it < s.heap.objs.size := by obtain ⟨_, q, _⟩ := hit.obj; exact Heap.lt_size q
    have hh : X.A.in1.handled = none := I.ok.hd hc
    have l1 : i < its.toArray.size := by
      have := (List.getElem?_eq_some_iff.mp hu).1
      simpa using this
    refine wpAny_pyNext_enum_itemD (drawsB p hh it a hai its.toArray) he ⟨hit, p1⟩ l1 hne (by simp [hne, hae.symm]) fun u' h' tk e1 ho hit' hT hsz hk => ?_
    have eu : u' = u := by
      rw [List.getElem?_toArray, hu] at e1
      exact (Option.some.inj e1).symm
    subst eu
    refine ⟨_, rfl, wpAny_letOwnedTupleGo_enum (s := { s with heap := h', toks := tk + 1 }) ho fun h'' he' sb => ?_⟩
    have hT2 : h''.get? s.heap.objs.size = some { cls := .type "tuple", data := .seq #[.int i tk, u'] } := (sb.2 _ (Nat.ne_of_gt hel)).trans hT
    have new : ObjOk X.prog X.w (upd H s.heap.objs.size (.tup [.int (i : Nat), x])) h'' s.heap.objs.size (.tup [.int (i : Nat), x]) :=
      ⟨by show 2 ≤ sizeLine; decide, [.int i tk, u'], .cons ⟨_, rfl⟩ (.cons ru .nil), ⟨_, hT2, rfl, _, rfl⟩⟩
    have I1 : Inv X pins σ (upd H s.heap.objs.size (.tup [.int (i : Nat), x])) { s with heap := h'', toks := tk + 1 } :=
      I.turnedNew (ch := [e, it]) (fun b ob hb q => (sb.2 b (fun z => hb (by simp [z]))).trans (hk b ob (fun z => hb (by simp [z])) (fun z => hb (by simp [z])) q)) hf (Nat.le_refl _) new
    refine ⟨.ref s.heap.objs.size, _, I1, rfl, ⟨_, x, rfl, I.hok.fresh (Nat.le_refl _), rfl, fun ys hy => by rw [seqB_inj I hy hq]; exact hx⟩, ⟨⟨u', ?_⟩, hit'.1.at fun o q => (sb.2 it (Ne.symm hne)).trans q, hne⟩, fun b hb => ?_⟩
    · have e1 : ((i + 1 : Nat) : Int) = (i : Int) + 1 := by omega
      rw [e1]; exact he'
    · have hb' : b < s.heap.objs.size := by
        have e' : b = e ∨ b = it := by simpa using hb
        rcases e' with z | z
        · rw [z]; exact hel
        · rw [z]; exact hil
      rw [upd_ne (Nat.ne_of_lt hb')]
      exact (hf b hb).1
  done := by
    intro X hP hw hK hc i pins s σ H E I hf st hg
    subst hP hw hK
    obtain ⟨⟨old, he⟩, hit, hne⟩ := st
    obtain ⟨xs, hq, hx⟩ := hg
    obtain ⟨its, rv, p1⟩ := seqB I hq
    obtain ⟨f0, f1, f2, f3, f4, f5⟩ := hf it (by simp)
    have hl := rv.length
    have hh : X.A.in1.handled = none := I.ok.hd hc
    have s1 : its.toArray.size = i := by simp; omega
    refine wpAny_pyNext_enum_endD (drawsB p hh it a hai its.toArray) he (by rw [s1]; exact ⟨hit, p1⟩) fun h' eb => ⟨rfl, I.turned (t' := s.toks) (fun b o hb q => eb b o hb q) f0 f1 f3 f4 f5⟩
  self := fun A i s Q E st h => let ⟨⟨_, he⟩, _⟩ := st; wpAny_pyIter_enum he h
theorem meets_enumerate_newB1 {v : Value} {o : Obj} {H : Heap → Prop} (B : Begins v o H) :
    Meets (Builtin.«enumerate.__new__» ⟨[.type "enumerate", v], []⟩) (fun _ R s => H s.heap ∧
      R (.ok (.ret (.ref (s.heap.push o).objs.size))) { s with heap := (s.heap.push o).push { cls := .type "enumerate", data := .fields #[.none, .bool false, .ref s.heap.objs.size, rawInt 0, .none, .none] } }) :=
  .of_wp fun prog w A R s h => by
    obtain ⟨hp, g, d, tk, os⟩ := s; obtain ⟨h1, h⟩ := h
    have hsub := sub_enumerate
    have q1 : ∀ {A' : Around} {E : Value → Shared → Prop} {Q : Value → Shared → Prop}, Q (.ref hp.objs.size) ⟨hp.push o, g, d, tk, os⟩ → wpAny (model prog w) A' (pyIter v) Q E ⟨hp, g, d, tk, os⟩ :=
      fun q => B.iter prog w _ _ ⟨hp, g, d, tk, os⟩ _ h1 q
    wp_walk using q1
    first
      | exact ⟨_, rfl, h⟩
      | (refine wpAny_stack_any fun st => wpAny_pure ?_
         split
         · rename_i c _ _ _ _ _
           cases (c == Value.type "enumerate")
           · wp_walk using q1
             exact ⟨_, rfl, h⟩
           · wp_walk using q1
             exact ⟨_, rfl, h⟩
         · wp_walk using q1
           exact ⟨_, rfl, h⟩)
section
variable {prog : Program} {w : World} {A : Around} {E : Value → Shared → Prop} {s : Shared}
theorem enum_begins1 {v : Value} {o : Obj} {H : Heap → Prop} {Q : Value → Shared → Prop} (B : Begins v o H) (h1 : H s.heap)
    (h : ∀ h', IsEnum h' (s.heap.objs.size + 1) s.heap.objs.size 0 .none → h'.get? s.heap.objs.size = some o → h'.objs.size = s.heap.objs.size + 2 →
      (∀ b o, s.heap.get? b = some o → h'.get? b = some o) → Q (.ref (s.heap.objs.size + 1)) { s with heap := h' }) :
    wpAny (model prog w) A (call (.type "enumerate") [v]) Q E s := by
  refine callType_new F.called_enumerate (by decide) (F.typeCall_enumerate_1 _) (F.newCall_enumerate_1 _) (fun obj => F.args_object_init_2 obj _) F.entry_enumerate_new
    (meets_enumerate_newB1 B) ⟨h1, ?_⟩
  have hz : (s.heap.push o).objs.size = s.heap.objs.size + 1 := Heap.size_push ..
  show _ ∧ _
  rw [hz]
  have he : IsEnum ((s.heap.push o).push { cls := .type "enumerate", data := .fields #[.none, .bool false, .ref s.heap.objs.size, rawInt 0, .none, .none] }) (s.heap.objs.size + 1) s.heap.objs.size 0 .none := by
    have := Heap.get?_push_size (s.heap.push o) (o := { cls := .type "enumerate", data := .fields #[.none, .bool false, .ref s.heap.objs.size, rawInt 0, .none, .none] }) rfl
    rw [hz] at this; exact this
  refine ⟨⟨_, he, rfl⟩, h _ he (Heap.get?_push_of_some _ (Heap.get?_push_size _ B.free)) (by rw [Heap.size_push, hz]) fun b o x => Heap.get?_push_of_some _ (Heap.get?_push_of_some _ x)⟩
end
def iEnumB (K : PySem.W.Frag) (ta : TA) : TI := fun σ H R => ta σ H fun vs H1 => ∃ p a xs, vs = [.ref a] ∧ SqB p K H1 a xs ∧ R (IteB p K a) H1
theorem pi_enumB {X : Cx} {e : Expr} {ta : TA} {p pos tpos : Pos} {elts : List Expr} {kk : Nat} (hg : Gl X "enumerate") (hm : X.mg "enumerate" = none) (ha : PA X [e] ta) (hs : starEach [e] X.env = [(false, eval e X.env)] := by rfl) :
    PI X (.Tuple elts kk tpos) (.Call (.Name "enumerate" p) [e] [] pos) (iEnumB X.K ta) := by
  refine ⟨fun pins s σ H R I h => ?_⟩
  refine Call_ (ld_blt I hg hm boot_enumerate (PyProof.Rows.callWith_type1 (thn (ha.run pos pins s σ H _ I h) fun us s1 ⟨vs, H1, I1, r1, q1⟩ => ?_) hs rfl))
  obtain ⟨p, a, xs, ex, hq, q⟩ := q1
  subst ex
  cases r1 with
  | cons r rr =>
    cases rr
    cases r
    obtain ⟨its, rv, p1⟩ := seqB I1 hq
    have al := p1.lt
    refine enum_begins1 (beginsB p a its.toArray) p1 fun h' he hit hsz hk => wpAny_pyIter_enum he ?_
    have I2 : Inv X pins σ H1 { s1 with heap := h' } := I1.kept (t' := s1.toks) hk
    refine ⟨s1.heap.objs.size + 1, [s1.heap.objs.size + 1, s1.heap.objs.size], _, _, H1, rfl, I2, turn_enumB p a (s1.heap.objs.size + 1) s1.heap.objs.size (Nat.ne_of_lt (Nat.lt_of_lt_of_le al (Nat.le_add_right _ _))) (Nat.ne_of_lt al), ⟨⟨.none, he⟩, itB_of hit, Nat.succ_ne_self _⟩, fun b hb => ?_, q⟩
    have e' : b = s1.heap.objs.size + 1 ∨ b = s1.heap.objs.size := by simpa using hb
    have hle : s1.heap.objs.size ≤ b := by
      rcases e' with z | z
      · rw [z]; exact Nat.le_add_right _ _
      · rw [z]; exact Nat.le_refl _
    exact I1.fpOk hle (I1.hok.fresh hle)
/-- a comprehension over enumerate of a row -/
theorem lc_enumB {p : Bool} {K : PySem.W.Frag} {a : Addr} {xs : List V} {g : TG} {tt : TT} {te : TE} {vs : List Nat} {σ : L2.St} {H1 : Hp} {D : Addr} {Qd : Hp → Prop} (Pv : Nat → Hp → Prop) (h0 : Pv 0 (upd H1 D (.lst [])))
    (hq : ∀ i H, Pv i H → SqB p K H a xs)
    (hs : ∀ (i : Nat) (x : V) (T : Addr) (H : Hp), xs[i]? = some x → Pv i H → H T = none → g (.ref T) (wipe σ vs) (upd H T (.tup [.int (i : Nat), x])) fun σ2 H2 => wipe σ2 vs = wipe σ vs ∧ tt σ2 H2 fun b H3 =>
      if b = true then te σ2 H3 fun y H4 => ∃ acc, H4 D = some (.lst acc) ∧ acc.length < sizeLine ∧ Pv (i + 1) (upd H4 D (.lst (acc ++ [y]))) else Pv (i + 1) H3) (hd : ∀ H, Pv xs.length H → Qd H) :
    ∃ W : Nat → Nat → Hp → Prop, (∃ m, W 0 m (upd H1 D (.lst []))) ∧ ∀ i m H, W i m H →
      (((IteB p K a).stop i H ∧ Qd H) ∨ ((IteB p K a).go i H ∧ ∃ Nx : Hp → Prop, (∀ H', Nx H' → ∃ m', m' < m ∧ W (i + 1) m' H') ∧ ∀ x H', (IteB p K a).yld i H x H' → g x (wipe σ vs) H' fun σ2 H2 => wipe σ2 vs = wipe σ vs ∧ tt σ2 H2 fun b H3 =>
        if b = true then te σ2 H3 fun y H4 => ∃ acc, H4 D = some (.lst acc) ∧ acc.length < sizeLine ∧ Nx (upd H4 D (.lst (acc ++ [y]))) else Nx H3)) := by
  refine ⟨fun i m H => m = xs.length - i ∧ i ≤ xs.length ∧ Pv i H, ⟨xs.length, by simp, Nat.zero_le _, h0⟩, ?_⟩
  rintro i m H ⟨rfl, hi, pv⟩
  have qx := hq i H pv
  by_cases hlt : i < xs.length
  · have hx : xs[i]? = some xs[i] := List.getElem?_eq_getElem hlt
    refine .inr ⟨⟨xs, xs[i], qx, hx⟩, Pv (i + 1), fun H' p' => ⟨xs.length - (i + 1), by omega, rfl, hlt, p'⟩, fun v H' y => ?_⟩
    obtain ⟨T, x', e1, n, e2, h1⟩ := y
    rw [e1, e2]
    exact hs i x' T H (h1 xs qx) pv n
  · have e : i = xs.length := by omega
    subst e
    exact .inl ⟨⟨xs, qx, rfl⟩, hd H pv⟩
end Vf

set_option maxRecDepth 100000
set_option maxHeartbeats 4000000
/-! slices of lists and tuples alike; zip of rows of any lengths, of three rows -/
namespace Vf
open PySem PySem.Spec PyProof.Rows L2
def rSlQ (K : PySem.W.Frag) : V → Option Int → Option Int → Hp → VK → Prop := fun x lo hi H Q => ∃ p a xs, x = .ref a ∧ SqB p K H a xs ∧ ∀ b H', Same H H' → SqB p K H' b (cutV xs lo hi) → Q (.ref b) H'
theorem same_new {H : Hp} {p : Addr} {o : HO} (n : H p = none) : Same H (upd H p o) := fun b u e => by rw [upd_ne (ne_of_none e n)]; exact e
theorem sl_seq {X : Cx} : SlR X (rSlQ X.K) := by
  intro pins s σ H x v vl vu lo hi sl Q I rx hs pl pu h
  obtain ⟨p, a, xs, rfl, hq, q⟩ := h
  cases p with
  | false =>
    refine sl_tupA pins s σ H _ v vl vu lo hi sl Q I rx hs pl pu ⟨a, xs, rfl, hq, fun hw => ?_, fun _ t nt => q t _ (same_new nt) (.inl (.inl upd_same))⟩
    refine q a H (Same.refl _) ?_
    have e : cutV xs lo hi = xs := by
      unfold cutV
      rw [hw.1, hw.2, Nat.sub_zero, List.drop_zero, List.take_length]
    rw [e]
    exact hq
  | true => exact sl_list pins s σ H _ v vl vu lo hi sl Q I rx hs pl pu ⟨a, xs, rfl, hq, fun t nt => q t _ (same_new nt) (.inl (.inl upd_same))⟩
/-- a comprehension over zip of two rows of any lengths -/
theorem lc_zipM {p q : Bool} {K : PySem.W.Frag} {a b : Addr} {xs ys : List V} {g : TG} {tt : TT} {te : TE} {vs : List Nat} {σ : L2.St} {H1 : Hp} {D : Addr} {Qd : Hp → Prop} (n : Nat) (hn : n = min xs.length ys.length) (Pv : Nat → Hp → Prop) (h0 : Pv 0 (upd H1 D (.lst [])))
    (hq : ∀ i H, Pv i H → SqB p K H a xs ∧ SqB q K H b ys)
    (hs : ∀ (i : Nat) (x y : V) (T : Addr) (H : Hp), i < n → xs[i]? = some x → ys[i]? = some y → Pv i H → H T = none → g (.ref T) (wipe σ vs) (upd H T (.tup [x, y])) fun σ2 H2 => wipe σ2 vs = wipe σ vs ∧ tt σ2 H2 fun b H3 =>
      if b = true then te σ2 H3 fun y H4 => ∃ acc, H4 D = some (.lst acc) ∧ acc.length < sizeLine ∧ Pv (i + 1) (upd H4 D (.lst (acc ++ [y]))) else Pv (i + 1) H3) (hd : ∀ H, Pv n H → Qd H) :
    ∃ W : Nat → Nat → Hp → Prop, (∃ m, W 0 m (upd H1 D (.lst []))) ∧ ∀ i m H, W i m H →
      (((ItzB p q K a b).stop i H ∧ Qd H) ∨ ((ItzB p q K a b).go i H ∧ ∃ Nx : Hp → Prop, (∀ H', Nx H' → ∃ m', m' < m ∧ W (i + 1) m' H') ∧ ∀ x H', (ItzB p q K a b).yld i H x H' → g x (wipe σ vs) H' fun σ2 H2 => wipe σ2 vs = wipe σ vs ∧ tt σ2 H2 fun b H3 =>
        if b = true then te σ2 H3 fun y H4 => ∃ acc, H4 D = some (.lst acc) ∧ acc.length < sizeLine ∧ Nx (upd H4 D (.lst (acc ++ [y]))) else Nx H3)) := by
  refine ⟨fun i m H => m = n - i ∧ i ≤ n ∧ Pv i H, ⟨n, by simp, Nat.zero_le _, h0⟩, ?_⟩
  rintro i m H ⟨rfl, hi, pv⟩
  obtain ⟨qx, qy⟩ := hq i H pv
  by_cases hlt : i < n
  · have h1 : i < xs.length := by omega
    have h2 : i < ys.length := by omega
    have hx : xs[i]? = some xs[i] := List.getElem?_eq_getElem h1
    have hy : ys[i]? = some ys[i] := List.getElem?_eq_getElem h2
    refine .inr ⟨⟨xs, ys, xs[i], ys[i], qx, qy, hx, hy⟩, Pv (i + 1), fun H' p' => ⟨n - (i + 1), by omega, rfl, hlt, p'⟩, fun v H' y => ?_⟩
    obtain ⟨T, x', y', e1, m, e2, h1, h2⟩ := y
    rw [e1, e2]
    exact hs i x' y' T H hlt (h1 xs qx) (h2 ys qy) pv m
  · have e : i = n := by omega
    subst e
    exact .inl ⟨⟨xs, ys, qx, qy, by omega, by omega, by omega⟩, hd H pv⟩
/-! ### three rows -/
def Itz3 (p q r : Bool) (K : PySem.W.Frag) (a b c : Addr) : It :=
  ⟨fun i H => ∃ (xs ys ws : List V) (x y w : V), SqB p K H a xs ∧ SqB q K H b ys ∧ SqB r K H c ws ∧ xs[i]? = some x ∧ ys[i]? = some y ∧ ws[i]? = some w,
    fun i H v H' => ∃ T x y w, v = .ref T ∧ H T = none ∧ H' = upd H T (.tup [x, y, w]) ∧ (∀ xs, SqB p K H a xs → xs[i]? = some x) ∧ (∀ ys, SqB q K H b ys → ys[i]? = some y) ∧ ∀ ws, SqB r K H c ws → ws[i]? = some w,
    fun i H => ∃ xs ys ws : List V, SqB p K H a xs ∧ SqB q K H b ys ∧ SqB r K H c ws ∧ i ≤ xs.length ∧ i ≤ ys.length ∧ i ≤ ws.length ∧ (xs.length = i ∨ ys.length = i ∨ ws.length = i)⟩
/-- the cells of a zip of three, the first one at n, over rows that stood before -/
theorem sep3 {n a b c : Addr} (ha : a < n) (hb : b < n) (hc : c < n) : ZipSep3 (n + 5) (n + 3) (n + 4) n (n + 1) (n + 2) [n, a] [n + 1, b] [n + 2, c] := by
  have up : ∀ {x : Addr} (k : Nat), x < n → n + k ≠ x := fun {x} k h => Nat.ne_of_gt (Nat.lt_of_lt_of_le h (Nat.le_add_right n k))
  have d : ∀ {i j : Nat}, i < j → n + i ≠ n + j := fun {i j} h => Nat.ne_of_lt (Nat.add_lt_add_left h n)
  have z : ∀ {j : Nat}, 0 < j → n + j ≠ n := fun {j} h => Nat.ne_of_gt (Nat.lt_add_of_pos_right h)
  have no : ∀ {x y w : Addr}, x ≠ y → x ≠ w → x ∉ [y, w] := fun {x y w} h1 h2 h => by
    rcases List.mem_cons.mp h with h | h
    · exact h1 h
    · exact h2 (List.mem_singleton.mp h)
  exact {
    TIz := d (by decide)
    TOz := d (by decide)
    TITO := d (by decide)
    TIi1 := z (by decide)
    mem1 := List.mem_cons_self ..
    zf1 := no (z (by decide)) (up 5 ha)
    Tf1 := no (z (by decide)) (up 4 ha)
    TIi2 := (d (by decide)).symm
    mem2 := List.mem_cons_self ..
    zf2 := no (d (by decide)).symm (up 5 hb)
    Tf2 := no (d (by decide)).symm (up 4 hb)
    TIi3 := (d (by decide)).symm
    mem3 := List.mem_cons_self ..
    zf3 := no (d (by decide)).symm (up 5 hc)
    Tf3 := no (d (by decide)).symm (up 4 hc)
    sep1_2 := no (z (by decide)).symm (Nat.ne_of_gt hb)
    sep1_3 := no (z (by decide)).symm (Nat.ne_of_gt hc)
    sep2_1 := no (z (by decide)) (up 1 ha)
    sep2_3 := no (d (by decide)) (up 1 hc)
    sep3_1 := no (z (by decide)) (up 2 ha)
    sep3_2 := no (d (by decide)).symm (up 2 hb) }
theorem turn_zip3 {P : Program} {w : World} {K : PySem.W.Frag} {elts : List Expr} {kk : Nat} {tpos : Pos} (p q r : Bool) {n a b c : Addr} (ha : a < n) (hb : b < n) (hc : c < n) :
    Turn P w K (.Tuple elts kk tpos) (Itz3 p q r K a b c) [n + 5, n + 3, n + 4, n, n + 1, n + 2] (n + 5) (fun i h => IsZip h (n + 5) (n + 3) (n + 4) .none ∧ IsTupOf3 h (n + 3) (.ref n) (.ref (n + 1)) (.ref (n + 2)) ∧ (∃ x y z, IsTupOf3 h (n + 4) x y z) ∧ ItB p h n a i ∧ ItB q h (n + 1) b i ∧ ItB r h (n + 2) c i) where
  mem := by simp
  obj := fun i h st d hd => by
    obtain ⟨hz, hTI, ⟨x, y, z, hTO⟩, h1, h2, h3⟩ := st
    have e' : d = n + 5 ∨ d = n + 3 ∨ d = n + 4 ∨ d = n ∨ d = n + 1 ∨ d = n + 2 := by simpa using hd
    rcases e' with q | q | q | q | q | q
    · rw [q]; exact ⟨_, hz, fun v q => nomatch q⟩
    · rw [q]; exact ⟨_, hTI, fun v q => nomatch q⟩
    · rw [q]; exact ⟨_, hTO, fun v q => nomatch q⟩
    · rw [q]; exact h1.obj
    · rw [q]; exact h2.obj
    · rw [q]; exact h3.obj
  keep := fun i h h' st k => by
    obtain ⟨hz, hTI, ⟨x, y, z, hTO⟩, h1, h2, h3⟩ := st
    exact ⟨k _ (by simp) _ hz, k _ (by simp) _ hTI, ⟨x, y, z, k _ (by simp) _ hTO⟩, h1.at fun o q => k _ (by simp) o q, h2.at fun o q => k _ (by simp) o q, h3.at fun o q => k _ (by simp) o q⟩
  item := by
    intro X hP hw hK hcm i pins s σ H E I hf st hg
    subst hP hw hK
    obtain ⟨hz, hTI, ⟨x0, y0, z0, hTO⟩, h1, h2, h3⟩ := st
    obtain ⟨xs, ys, ws, x, y, w', hqx, hqy, hqw, hx, hy, hw'⟩ := hg
    obtain ⟨its, rv, p1⟩ := seqB I hqx
    obtain ⟨its2, rv2, p2⟩ := seqB I hqy
    obtain ⟨its3, rv3, p3⟩ := seqB I hqw
    obtain ⟨u, hu, ru⟩ := rv.get hx
    obtain ⟨u2, hu2, ru2⟩ := rv2.get hy
    obtain ⟨u3, hu3, ru3⟩ := rv3.get hw'
    have hzl : n + 5 < s.heap.objs.size := Heap.lt_size hz
    have hh : X.A.in1.handled = none := I.ok.hd hcm
    have lt : ∀ {l : List Value} {v : Value}, l[i]? = some v → i < l.toArray.size := fun h => by
      have := (List.getElem?_eq_some_iff.mp h).1
      simpa using this
    have na : a ≠ n := Nat.ne_of_lt ha
    have nb : b ≠ n + 1 := Nat.ne_of_lt (Nat.lt_succ_of_lt hb)
    have nc : c ≠ n + 2 := Nat.ne_of_lt (Nat.lt_of_lt_of_le hc (Nat.le_add_right _ _))
    refine wpAny_pyNext_zipD3_item (sep3 ha hb hc) (drawsB p hh n a na its.toArray) (drawsB q hh (n + 1) b nb its2.toArray) (drawsB r hh (n + 2) c nc its3.toArray) hz hTI hTO ⟨h1, p1⟩ ⟨h2, p2⟩ ⟨h3, p3⟩ (lt hu) (lt hu2) (lt hu3) fun u' u2' u3' h' tk e1 e2 e3 z' TO' h1' h2' h3' hT hsz hk => ?_
    have eu : u' = u := by
      rw [List.getElem?_toArray, hu] at e1
      exact (Option.some.inj e1).symm
    have eu2 : u2' = u2 := by
      rw [List.getElem?_toArray, hu2] at e2
      exact (Option.some.inj e2).symm
    have eu3 : u3' = u3 := by
      rw [List.getElem?_toArray, hu3] at e3
      exact (Option.some.inj e3).symm
    subst eu eu2 eu3
    refine ⟨_, rfl, wpAny_letOwnedTupleGo_zip (s := { s with heap := h', toks := tk }) z' fun h'' z'' sb => ?_⟩
    have hT2 : h''.get? s.heap.objs.size = some { cls := .type "tuple", data := .seq #[u', u2', u3'] } := (sb.2 _ (Nat.ne_of_gt hzl)).trans hT
    have new : ObjOk X.prog X.w (upd H s.heap.objs.size (.tup [x, y, w'])) h'' s.heap.objs.size (.tup [x, y, w']) :=
      ⟨by show 3 ≤ sizeLine; decide, [u', u2', u3'], .cons ru (.cons ru2 (.cons ru3 .nil)), ⟨_, hT2, rfl, _, rfl⟩⟩
    have I1 : Inv X pins σ (upd H s.heap.objs.size (.tup [x, y, w'])) { s with heap := h'', toks := tk } :=
      I.turnedNew (t' := tk) (ch := [n + 5, n + 3, n + 4, n, n + 1, n + 2]) (fun c o hb q => (sb.2 c (fun q' => hb (by simp [q']))).trans (hk c o (fun q' => hb (by simp [q'])) (fun q' => hb (by simp [q'])) (fun q' => hb (by simp [q'])) (fun q' => hb (by simp [q'])) (fun q' => hb (by simp [q'])) q)) hf (Nat.le_refl _) new
    have S := sep3 ha hb hc
    refine ⟨.ref s.heap.objs.size, _, I1, rfl, ⟨_, x, y, w', rfl, I.hok.fresh (Nat.le_refl _), rfl, fun l hl => by rw [seqB_inj I hl hqx]; exact hx, fun l hl => by rw [seqB_inj I hl hqy]; exact hy, fun l hl => by rw [seqB_inj I hl hqw]; exact hw'⟩, ⟨z'', ?_, ⟨u', u2', u3', ?_⟩, ?_, ?_, ?_⟩, fun d hcm => ?_⟩
    · exact (sb.2 _ S.TIz).trans (hk _ _ S.TIz S.TITO S.TIi1 S.TIi2 S.TIi3 hTI)
    · exact (sb.2 _ S.TOz).trans TO'
    · exact h1'.1.at fun o q => (sb.2 _ S.zi1.symm).trans q
    · exact h2'.1.at fun o q => (sb.2 _ S.zi2.symm).trans q
    · exact h3'.1.at fun o q => (sb.2 _ S.zi3.symm).trans q
    · have hlt : d < s.heap.objs.size := by
        have e' : d = n + 5 ∨ d = n + 3 ∨ d = n + 4 ∨ d = n ∨ d = n + 1 ∨ d = n + 2 := by simpa using hcm
        have lo : ∀ {k : Nat}, k ≤ 5 → n + k < s.heap.objs.size := fun {k} h => Nat.lt_of_le_of_lt (Nat.add_le_add_left h n) hzl
        rcases e' with q | q | q | q | q | q
        · rw [q]; exact hzl
        · rw [q]; exact lo (by decide)
        · rw [q]; exact lo (by decide)
        · rw [q]; exact Nat.lt_of_le_of_lt (Nat.le_add_right n 5) hzl
        · rw [q]; exact lo (by decide)
        · rw [q]; exact lo (by decide)
      rw [upd_ne (Nat.ne_of_lt hlt)]
      exact (hf d hcm).1
  done := by
    intro X hP hw hK hcm i pins s σ H E I hf st hg
    subst hP hw hK
    obtain ⟨hz, hTI, ⟨x0, y0, z0, hTO⟩, h1, h2, h3⟩ := st
    obtain ⟨xs, ys, ws, hqx, hqy, hqw, le1, le2, le3, hend⟩ := hg
    obtain ⟨its, rv, p1⟩ := seqB I hqx
    obtain ⟨its2, rv2, p2⟩ := seqB I hqy
    obtain ⟨its3, rv3, p3⟩ := seqB I hqw
    have l1 := rv.length
    have l2 := rv2.length
    have l3 := rv3.length
    have hh : X.A.in1.handled = none := I.ok.hd hcm
    have s1 : its.toArray.size = its.length := by simp
    have s2 : its2.toArray.size = its2.length := by simp
    have s3 : its3.toArray.size = its3.length := by simp
    have na : a ≠ n := Nat.ne_of_lt ha
    have nb : b ≠ n + 1 := Nat.ne_of_lt (Nat.lt_succ_of_lt hb)
    have nc : c ≠ n + 2 := Nat.ne_of_lt (Nat.lt_of_lt_of_le hc (Nat.le_add_right _ _))
    refine wpAny_pyNext_zipD3_end (sep3 ha hb hc) (drawsB p hh n a na its.toArray) (drawsB q hh (n + 1) b nb its2.toArray) (drawsB r hh (n + 2) c nc its3.toArray) hz hTI hTO ⟨h1, p1⟩ ⟨h2, p2⟩ ⟨h3, p3⟩ (by rw [s1]; omega) (by rw [s2]; omega) (by rw [s3]; omega) (by rw [s1, s2, s3]; omega) fun h' tk hk => ⟨rfl, I.turnedL (t' := tk) (ch := [n + 5, n + 3, n + 4, n, n + 1, n + 2]) (fun c o hb q =>
      hk c o (fun q' => hb (by simp [q'])) (fun q' => hb (by simp [q'])) (fun q' => hb (by simp [q'])) (fun q' => hb (by simp [q'])) (fun q' => hb (by simp [q'])) q) hf⟩
  self := fun A i s Q E st h => wpAny_pyIter_zip st.1 h
def iZip3 (K : PySem.W.Frag) (ta : TA) : TI := fun σ H R => ta σ H fun vs H1 => ∃ p q r a b c xs ys ws, vs = [.ref a, .ref b, .ref c] ∧ SqB p K H1 a xs ∧ SqB q K H1 b ys ∧ SqB r K H1 c ws ∧ R (Itz3 p q r K a b c) H1
theorem pi_zip3 {X : Cx} {e e2 e3 : Expr} {ta : TA} {p pos tpos : Pos} {elts : List Expr} {kk : Nat} (hg : Gl X "zip") (hm : X.mg "zip" = none) (ha : PA X [e, e2, e3] ta)
    (hs : starEach [e, e2, e3] X.env = (false, eval e X.env) :: starEach [e2, e3] X.env := by rfl) (hpl : (backTo pos (starEach [e2, e3] X.env)).any (·.1) = false := by rfl) :
    PI X (.Tuple elts kk tpos) (.Call (.Name "zip" p) [e, e2, e3] [] pos) (iZip3 X.K ta) := by
  refine ⟨fun pins s σ H R I h => ?_⟩
  refine Call_ (ld_blt I hg hm PyProof.Rows.boot_zip (PyProof.Rows.callWith_type1 (thn (ha.run pos pins s σ H _ I h) fun us s1 ⟨vs, H1, I1, r1, q1⟩ => ?_) hs hpl))
  obtain ⟨p, q, r, a, b, c, xs, ys, ws, ex, hqx, hqy, hqw, g⟩ := q1
  subst ex
  cases r1 with
  | cons r1 rr =>
    cases rr with
    | cons r2 rr =>
      cases rr with
      | cons r3 rr =>
        cases rr
        cases r1
        cases r2
        cases r3
        have fresh : ∀ d, d ∈ [s1.heap.objs.size + 5, s1.heap.objs.size + 3, s1.heap.objs.size + 4, s1.heap.objs.size, s1.heap.objs.size + 1, s1.heap.objs.size + 2] → FpOk X pins H1 d := fun d hcm => by
          have e' : d = s1.heap.objs.size + 5 ∨ d = s1.heap.objs.size + 3 ∨ d = s1.heap.objs.size + 4 ∨ d = s1.heap.objs.size ∨ d = s1.heap.objs.size + 1 ∨ d = s1.heap.objs.size + 2 := by simpa using hcm
          have hle : s1.heap.objs.size ≤ d := by
            rcases e' with z | z | z | z | z | z
            · rw [z]; exact Nat.le_add_right _ _
            · rw [z]; exact Nat.le_add_right _ _
            · rw [z]; exact Nat.le_add_right _ _
            · rw [z]; exact Nat.le_refl _
            · rw [z]; exact Nat.le_add_right _ _
            · rw [z]; exact Nat.le_add_right _ _
          exact I1.fpOk hle (I1.hok.fresh hle)
        obtain ⟨its, rv, p1⟩ := seqB I1 hqx
        obtain ⟨its2, rv2, p2⟩ := seqB I1 hqy
        obtain ⟨its3, rv3, p3⟩ := seqB I1 hqw
        refine zip_begins3 (beginsB p a its.toArray) (beginsB q b its2.toArray) (beginsB r c its3.toArray) p1 p2 p3 fun h' hz hTI hTO h1 h2 h3 hsz hk => wpAny_pyIter_zip hz ?_
        have I2 : Inv X pins σ H1 { s1 with heap := h' } := I1.kept (t' := s1.toks) hk
        exact ⟨s1.heap.objs.size + 5, [s1.heap.objs.size + 5, s1.heap.objs.size + 3, s1.heap.objs.size + 4, s1.heap.objs.size, s1.heap.objs.size + 1, s1.heap.objs.size + 2], _, _, H1, rfl, I2, turn_zip3 p q r p1.lt p2.lt p3.lt, ⟨hz, hTI, ⟨_, _, _, hTO⟩, itB_of h1, itB_of h2, itB_of h3⟩, fresh, g⟩
/-- a loop over zip of three rows alike in length -/
theorem for_zip3 {p q r : Bool} {K : PySem.W.Frag} {a b c : Addr} {xs ys ws : List V} {g : TG} {tb : TS} {D : Ends} {σ : L2.St} {H : Hp} (hl : xs.length = ys.length) (hl2 : xs.length = ws.length) (Pv : Nat → L2.St → Hp → Prop) (h0 : Pv 0 σ H) (hq : ∀ i σ H, Pv i σ H → SqB p K H a xs ∧ SqB q K H b ys ∧ SqB r K H c ws)
    (hs : ∀ (i : Nat) (x y w : V) (T : Addr) (σ : L2.St) (H : Hp), xs[i]? = some x → ys[i]? = some y → ws[i]? = some w → Pv i σ H → H T = none → g (.ref T) σ (upd H T (.tup [x, y, w])) fun σ2 H2 => tb { D with nx := Pv (i + 1), ct := Pv (i + 1), bk := D.nx } σ2 H2) (hd : ∀ σ H, Pv xs.length σ H → D.nx σ H) :
    ∃ W : Nat → Nat → L2.St → Hp → Prop, (∃ m, W 0 m σ H) ∧ ∀ i m σ H, W i m σ H →
      ((Itz3 p q r K a b c).stop i H ∧ D.nx σ H) ∨ ((Itz3 p q r K a b c).go i H ∧ ∃ N : L2.St → Hp → Prop, (∀ σ' H', N σ' H' → ∃ m', m' < m ∧ W (i + 1) m' σ' H') ∧ ∀ v H', (Itz3 p q r K a b c).yld i H v H' → g v σ H' fun σ2 H2 => tb { D with nx := N, ct := N, bk := D.nx } σ2 H2) := by
  refine ⟨fun i m σ H => m = xs.length - i ∧ i ≤ xs.length ∧ Pv i σ H, ⟨xs.length, rfl, Nat.zero_le _, h0⟩, ?_⟩
  rintro i m σ H ⟨rfl, hi, pv⟩
  obtain ⟨qx, qy, qw⟩ := hq i σ H pv
  by_cases hlt : i < xs.length
  · have hx : xs[i]? = some xs[i] := List.getElem?_eq_getElem hlt
    have hy : ys[i]? = some (ys[i]'(by omega)) := List.getElem?_eq_getElem (by omega)
    have hw : ws[i]? = some (ws[i]'(by omega)) := List.getElem?_eq_getElem (by omega)
    refine .inr ⟨⟨xs, ys, ws, _, _, _, qx, qy, qw, hx, hy, hw⟩, Pv (i + 1), fun σ' H' p' => ⟨xs.length - (i + 1), by omega, rfl, hlt, p'⟩, fun v H' y => ?_⟩
    obtain ⟨T, x', y', w', rfl, hT, rfl, f1, f2, f3⟩ := y
    exact hs i x' y' w' T σ H (f1 xs qx) (f2 ys qy) (f3 ws qw) pv hT
  · have e : i = xs.length := by omega
    subst e
    exact .inl ⟨⟨xs, ys, ws, qx, qy, qw, Nat.le_refl _, by omega, by omega, .inl rfl⟩, hd σ H pv⟩
end Vf

set_option maxRecDepth 100000
set_option maxHeartbeats 4000000
/-! a tuple once or more often -/
namespace Vf
open PySem PySem.Spec PyProof.Rows L2
theorem tuple_mul1 (l : Addr) (items : Array Value) (n : Nat) (sl : Array (Option Value)) (dd : Option Addr) (u : Tok) :
    Meets (Builtin.«tuple.__mul__» ⟨[.ref l, .int 1 u], []⟩) (fun _ R s => s.heap.get? l = some { cls := .type "tuple", dict := dd, data := .seq items n, slots := sl } ∧
      R (.ok (.ret (Value.ref l))) s) :=
  .of_wp fun prog w A R s h => by
    obtain ⟨hp, g, d, tk, os⟩ := s
    obtain ⟨hl, h⟩ := h
    have f1 := AutoSeq1.idx_int
    have c1 : (items.isEmpty || (1 : Int) == 1) = true := by
      rw [beq_self_eq_true, Bool.or_true]
    wp_walk using wpAny_loadPart' hl
    repeat (first
      | (refine wpAny_ite_true (decide_eq_true (by rw [c1])) ?_; wp_walk using wpAny_loadPart' hl))
    exact ⟨_, rfl, h⟩
/-- t * k, k from 1 on -/
def rRepA (K : PySem.W.Frag) : R2 := fun x y H Q => ∃ l k xs, x = .ref l ∧ y = .int k ∧ SqT K H l xs ∧ xs ≠ [] ∧ 1 ≤ k ∧ k ≤ 1000 ∧ xs.length ≤ 1000 ∧ ∀ p H', Same H H' → SqT K H' p (List.replicate k.toNat xs).flatten → Q (.ref p) H'
section
variable {X : Cx}
theorem op_repA : OpR X (binaryOp .Mult) (rRepA X.K) := by
  intro pins s σ H x y v u Q I rx ry h
  obtain ⟨l, k, xs, rfl, rfl, hT, hne, h1, h2, hz, q⟩ := h
  by_cases hk : k = 1
  · subst hk
    cases rx
    obtain ⟨t, rfl⟩ := ry
    obtain ⟨its, r, ⟨⟨cls, dd, data, sl⟩, ho, hc, n, hd⟩, hs⟩ := I.tuple hT
    simp only at hc hd
    subst hc hd
    refine wpAny_binaryOp_repeat_ref (T := "tuple") (U := "int") (by decide) ⟨_, ho, rfl⟩ (fun s' => typeIs_int s' 1 t) noFill_tuple_mul F.fills_int_mul F.slot_int_rmul repeat_tuple F.slot_int_index.lookup
      (call_meets F.slot_int_rmul (typeIs_int s 1 t) F.entry_int_rmul (F.args_int_rmul_2 _ _) (int_rmul_tuple 1 t l its.toArray n dd sl)
        ⟨ho, rfl, ⟨_, ho, rfl⟩, call_meets F.slot_tuple_mul ⟨_, ho, rfl⟩ F.entry_tuple_mul (F.args_tuple_mul_2 _ _) (tuple_mul1 l its.toArray n sl dd t) ⟨ho, ?_⟩⟩)
    exact ⟨.ref l, H, I, rfl, q l H (Same.refl _) (by simpa using hT)⟩
  · exact op_repT pins s σ H _ _ v u Q I rx ry ⟨l, k, xs, rfl, rfl, hT, hne, by omega, h2, hz, fun p np => q p _ (fun b u e => by rw [upd_ne (ne_of_none e np)]; exact e) (.inl (.inl upd_same))⟩
end
end Vf

set_option maxRecDepth 100000
set_option maxHeartbeats 8000000
namespace Vf
open PySem PySem.Spec PyProof.Rows L2
/-! ### rows of whole numbers moved and stretched -/
def RI (H : Hp) (l : Addr) (ns : List Int) : Prop := H l = some (.lst (ns.map V.int))
theorem RI.sq {K : PySem.W.Frag} {H : Hp} {l : Addr} {ns : List Int} (h : RI H l ns) : SqL K H l (ns.map V.int) := SqL.of h
theorem RI.same {H H' : Hp} {l : Addr} {ns : List Int} (h : RI H l ns) (s : Same H H') : RI H' l ns := s _ _ h
def big39 (z : Int) : Prop := z.natAbs < 2 ^ 8700
def spScaled : Sp := fun vs H Q _ => ∃ (l : Addr) (ns : List Int) (f : Int) (F : Nat), vs = [.ref l, .int f] ∧ RI H l ns ∧ ns.length ≤ 100 ∧ (∀ i, big39 (ci ns i)) ∧ f.natAbs ≤ F ∧ 0 < F ∧ F ^ ns.length < 2 ^ 8700 ∧
  ∀ (l' : Addr) (H' : Hp), Same H H' → RI H' l' (tabI ns.length fun i => ci ns i * f ^ i) → Q (.ref l') H'
def spMovedR : Sp := fun vs H Q _ => ∃ (l : Addr) (ns : List Int) (s : Int) (R N : Nat), vs = [.ref l, .int s] ∧ RI H l ns ∧ ns.length ≤ 100 ∧ 0 < R ∧ 2 * s.natAbs ≤ R ∧ Bd R N ns ∧ 2 ^ ns.length * N * R ^ ns.length < 2 ^ 8700 ∧ R < 2 ^ 8700 ∧
  ∀ (l' : Addr) (H' : Hp), Same H H' → RI H' l' (passN s (ns.length - 1) ns) → Q (.ref l') H'
theorem pow_abs (f : Int) : ∀ i : Nat, (f ^ i).natAbs = f.natAbs ^ i
  | 0 => by rw [Int.pow_zero, Nat.pow_zero]; rfl
  | i + 1 => by rw [Int.pow_succ, Int.natAbs_mul, pow_abs f i, Nat.pow_succ]
theorem tab_all (ns : List Int) : tabI ns.length (ci ns) = ns := by
  refine List.ext_getElem? fun i => ?_
  unfold tabI
  rw [List.getElem?_map]
  by_cases h : i < ns.length
  · rw [List.getElem?_range h, ci_lt h]; rfl
  · rw [List.getElem?_eq_none_iff.mpr (by rw [List.length_range]; omega), List.getElem?_eq_none_iff.mpr (show ns.length ≤ i by omega)]; rfl
theorem sufs_zero : ∀ l : List Int, sufs 0 l = l
  | [] => rfl
  | a :: r => by show (a + 0 * hz 0 r) :: sufs 0 r = _; rw [sufs_zero r, Int.zero_mul, Int.add_zero]
theorem pass_zero (l : List Int) : ∀ k, passN 0 k l = l
  | 0 => rfl
  | k + 1 => by show (passN 0 k l).take k ++ sufs 0 ((passN 0 k l).drop k) = _; rw [sufs_zero, pass_zero l k, List.take_append_drop]
section
variable {P : Program} {w : World} {K : PySem.W.Frag} {mg : Str → Option Value} {base : Heap} {CP CR CN CI : Addr}
abbrev sScaled : Stmt := topS 35
theorem scScaled : FnScope ["row", "factor", "scaled", "power", "number"] ["row", "factor"] (defScope sScaled) := ⟨rfl, rfl, rfl, by decide +kernel, rfl, by decide +kernel, by decide +kernel⟩
theorem ok_scaled {f : Addr} {fd : FuncData} (F : Fun K "scaled_row" "scaled_row" sScaled f fd) (T : Bk mg) : FnOk P w K mg base CX0 1 f fd ["row", "factor"] spScaled := by
  refine F.ok scScaled (fun vs H Q E h => ?_) (fun cdv A outer s H vs Q E hr h => ?_)
  · obtain ⟨l, ns, f, B, rfl, _⟩ := h
    rfl
  · obtain ⟨l, ns, f, B, rfl, hl, ln, bn, hf, hB, hp, q⟩ := h
    refine ⟨_, (pss_cons (ps_if (pt_cmpR op_eq (pv 1) pe_int (nomark _))
    (pss_one (ps_ret (pe_callTy call_list_of (by rfl) T.list (by decide +kernel) (pa_cons (pv 0) pa_nil))))
    pss_nil)
  (pss_cons (ps_set (i := 2) scScaled.nd rfl (Or.inl rfl) (pe_lst pa_nil))
  (pss_cons (ps_set (i := 3) scScaled.nd rfl (Or.inl rfl) pe_int)
  (pss_cons (ps_for PassesOwn.never rfl (pi_seq (pv 0)) (pg_name (i := 4) scScaled.nd rfl (Or.inl rfl))
    (pss_cons (ps_expr (pe_bm PySem.F.plainAttrs_list PySem.F.slot_list_append PySem.F.type_list_append mt_append (pv 2) (pa_cons (pe_op op_mulW (pv 4) (pv 3)) pa_nil)))
    (pss_one (ps_set (i := 3) scScaled.nd rfl (Or.inl rfl) (pe_op op_mulW (pv 3) (pv 1))))))
  (pss_one (ps_ret (pv 2))))))), ?_⟩
    refine ⟨_, rfl, rfl, _, rfl, ?_⟩
    by_cases f1 : f = 1
    · subst f1
      rw [decide_eq_true rfl]
      refine iteT ?_
      refine ⟨_, rfl, l, _, rfl, .inl hl.sq, fun l' nl => ?_⟩
      refine q l' _ (same_upd nl) ?_
      have e : (fun i => ci ns i * 1 ^ i) = ci ns := funext fun i => by rw [Int.one_pow, Int.mul_one]
      rw [e, tab_all]
      exact upd_same
    · rw [decide_eq_false (by intro z; exact f1 (by injection z))]
      refine iteF ?_
      refine ⟨(by show 0 ≤ sizeLine; decide), fun l' nl => ?_⟩
      have el : upd H l' (HO.lst []) l' = some (HO.lst []) := upd_same
      have sl : Same H (upd H l' (HO.lst [])) := same_upd nl
      generalize upd H l' (HO.lst []) = H1 at el sl ⊢
      have pw : ∀ i, i < ns.length → (f ^ i).natAbs < 2 ^ 8700 := fun i hi => by
        rw [pow_abs]
        exact Nat.lt_of_le_of_lt (Nat.le_trans (Nat.pow_le_pow_left hf i) (Nat.pow_le_pow_right hB (by omega))) hp
      have lm : (ns.map V.int).length = ns.length := List.length_map ..
      refine ⟨_, rfl, l, rfl, .inl ⟨_, (hl.same sl).sq, for_list (K := K) (a := l) (xs := ns.map V.int) (fun i σ H2 => ∃ v, σ = [some (.ref l), some (.int f), some (.ref l'), some (.int (f ^ i)), v] ∧ RI H2 l ns ∧ (∀ b o, H b = some o → H2 b = some o) ∧ RI H2 l' (tabI i fun i => ci ns i * f ^ i)) ⟨none, (by rw [Int.pow_zero]; rfl), hl.same sl, sl, el⟩ (fun i σ H2 _ ⟨_, _, hq, _, _⟩ => hq.sq) ?_ ?_⟩⟩
      · rintro i x σ H2 hi ⟨v, rfl, hq, sm, er⟩
        rw [List.getElem?_map] at hi
        have hin : i < ns.length := by
          refine Decidable.byContradiction fun n => ?_
          rw [List.getElem?_eq_none_iff.mpr (by omega)] at hi
          cases hi
        rw [ci_lt hin] at hi
        cases hi
        refine ⟨_, rfl, .inl ⟨rfl, _, SqL.of er⟩, _, rfl, _, rfl, _, _, rfl, rfl, big_mulW (bn i) (pw i hin), l', _, _, rfl, rfl, er, (by rw [List.length_map, tabI_len, sizeLine_eq]; omega), ?_⟩
        refine ⟨_, rfl, _, rfl, _, _, rfl, rfl, big_mulW (pw i hin) (Nat.lt_of_le_of_lt (Nat.le_trans hf (by have := Nat.pow_le_pow_right hB (show 1 ≤ ns.length by omega); rw [Nat.pow_one] at this; exact this)) hp), ?_⟩
        refine ⟨_, by rw [Int.pow_succ]; rfl, ?_, fun b o e => ?_, ?_⟩
        · show upd H2 l' _ l = _
          rw [upd_ne (fun z => by rw [z] at hl; rw [hl] at nl; cases nl)]
          exact hq
        · rw [upd_ne (ne_of_none e nl)]
          exact sm _ _ e
        · show upd H2 l' _ l' = _
          rw [upd_same, tabI_snoc, List.map_append]
          rfl
      · rintro σ H2 ⟨v, rfl, hq, sm, er⟩
        rw [lm] at er
        exact ⟨_, rfl, q l' H2 sm er⟩
theorem ixN_k {n j : Nat} (hj : j < n) : ixN n (j : Int) = some j := by
  unfold ixN
  rw [if_pos (by omega), if_pos (by omega)]
  simp
/-- the list within a pass -/
def midP (s : Int) (m : List Int) (p : Nat) : List Int := m.take p ++ sufs s (m.drop p)
theorem midP_len (s : Int) (m : List Int) (p : Nat) : (midP s m p).length = m.length := by
  unfold midP
  rw [List.length_append, sufs_len, ← List.length_append, List.take_append_drop]
theorem midP_at {s : Int} {m : List Int} {p : Nat} (h : p < m.length) : (midP s m (p + 1))[p]? = some (ci m p) := by
  unfold midP
  rw [List.getElem?_append_left (by rw [List.length_take]; omega), List.getElem?_take, if_pos (by omega), ci_lt h]
theorem drop_ci {m : List Int} {p : Nat} (h : p < m.length) : m.drop p = ci m p :: m.drop (p + 1) := by
  rw [List.drop_eq_getElem_cons h]
  have := ci_lt h
  rw [List.getElem?_eq_getElem h] at this
  rw [Option.some.inj this]
theorem midP_set {s : Int} {m : List Int} {p : Nat} (h : p < m.length) : (midP s m (p + 1)).set p (ci m p + s * hz s (m.drop (p + 1))) = midP s m p := by
  unfold midP
  rw [List.set_append_left _ _ (by rw [List.length_take]; omega), drop_ci h]
  show _ = m.take p ++ (ci m p + s * hz s (m.drop (p + 1))) :: sufs s (m.drop (p + 1))
  have : (m.take (p + 1)).set p (ci m p + s * hz s (m.drop (p + 1))) = m.take p ++ [ci m p + s * hz s (m.drop (p + 1))] := by
    refine List.ext_getElem? fun i => ?_
    by_cases e : i = p
    · subst e
      rw [List.getElem?_set_self (by rw [List.length_take]; omega), List.getElem?_append_right (by rw [List.length_take]; omega), List.length_take, show i - min i m.length = 0 by omega]
      rfl
    · rw [List.getElem?_set_ne (fun z => e z.symm), List.getElem?_take]
      by_cases g : i < p
      · rw [if_pos (by omega), List.getElem?_append_left (by rw [List.length_take]; omega), List.getElem?_take, if_pos g]
      · rw [if_neg (by omega), List.getElem?_eq_none_iff.mpr]
        rw [List.length_append, List.length_take]
        show min p m.length + 1 ≤ i
        omega
  rw [this, List.append_assoc]
  rfl
abbrev sMovedR : Stmt := topS 36
theorem scMovedR : FnScope ["row", "start", "moved", "first", "carried", "place"] ["row", "start"] (defScope sMovedR) := ⟨rfl, rfl, rfl, by decide +kernel, rfl, by decide +kernel, by decide +kernel⟩
theorem ok_movedr {f : Addr} {fd : FuncData} (F : Fun K "moved_row" "moved_row" sMovedR f fd) (T : Bk mg) : FnOk P w K mg base CX0 1 f fd ["row", "start"] spMovedR := by
  refine F.ok scMovedR (fun vs H Q E h => ?_) (fun cdv A outer s0 H vs Q E hr h => ?_)
  · obtain ⟨l, ns, s, R, N, rfl, _⟩ := h
    rfl
  · obtain ⟨l, ns, s, R, N, rfl, hl, ln, R0, hR, hB, hz1, hR2, q⟩ := h
    refine ⟨_, (pss_cons (ps_set (i := 2) scMovedR.nd rfl (Or.inl rfl) (pe_callTy call_list_of (by rfl) T.list (by decide +kernel) (pa_cons (pv 0) pa_nil)))
  (pss_cons (ps_if (pt_cmpR op_eq (pv 1) pe_int (nomark _))
    (pss_one (ps_ret (pv 2)))
    pss_nil)
  (pss_cons (ps_for PassesOwn.never rfl (pi_range1 (by rfl) T.range (pa_cons (pe_op op_sub (pe_callB call_len_seq (by rfl) T.len (by decide +kernel) (pa_cons (pv 0) pa_nil)) pe_int) pa_nil)) (pg_name (i := 3) scMovedR.nd rfl (Or.inl rfl))
    (pss_cons (ps_set (i := 4) scMovedR.nd rfl (Or.inl rfl) pe_int)
    (pss_one (ps_for PassesOwn.never rfl (pi_range3 (by rfl) T.range (pa_cons (pe_op op_sub (pe_callB call_len_seq (by rfl) T.len (by decide +kernel) (pa_cons (pv 0) pa_nil)) pe_int) (pa_cons (pe_op op_sub (pv 3) pe_int) (pa_cons (pe_un un_neg pe_int) pa_nil)))) (pg_name (i := 5) scMovedR.nd rfl (Or.inl rfl))
      (pss_cons (ps_set (i := 4) scMovedR.nd rfl (Or.inl rfl) (pe_op op_add (pe_ix ix_list (pv 2) (pv 5) (fun _ _ => rfl)) (pe_op op_mulW (pv 1) (pv 4))))
      (pss_one (ps_asg (pv 4) (pg_sub (pv 2) (pv 5) set_list))))))))
  (pss_one (ps_ret (pv 2)))))), ?_⟩
    refine ⟨_, rfl, l, _, rfl, .inl hl.sq, fun l' nl => ?_⟩
    have el : upd H l' (HO.lst (ns.map V.int)) l' = some (HO.lst (ns.map V.int)) := upd_same
    have sl : Same H (upd H l' (HO.lst (ns.map V.int))) := same_upd nl
    generalize upd H l' (HO.lst (ns.map V.int)) = H1 at el sl ⊢
    refine ⟨_, rfl, rfl, _, rfl, ?_⟩
    by_cases s1 : s = 0
    · subst s1
      rw [decide_eq_true rfl]
      refine iteT ?_
      refine ⟨_, rfl, q l' H1 sl ?_⟩
      rw [pass_zero]
      exact el
    · rw [decide_eq_false (by intro z; exact s1 (by injection z))]
      refine iteF ?_
      have lm : (ns.map V.int).length = ns.length := List.length_map ..
      have ml : ∀ {b : Addr} {o : HO}, H b = some o → b ≠ l' := fun e z => by rw [z, nl] at e; cases e
      refine ⟨_, rfl, l, _, rfl, .inl (hl.same sl).sq, _, _, rfl, rfl, _, rfl, by rw [lm]; omega, by rw [lm]; omega, for_range (lo := 0) (n := ((((ns.map V.int).length : Nat) : Int) - 1).toNat) (fun k σ H2 => ∃ v3 v4 v5, σ = [some (.ref l), some (.int s), some (.ref l'), v3, v4, v5] ∧ (∀ b o, H b = some o → H2 b = some o) ∧ RI H2 l' (passN s k ns)) ⟨none, none, none, rfl, sl, el⟩ ?_ ?_⟩
      · rintro k σ H2 hk ⟨v3, v4, v5, rfl, sm, er⟩
        rw [lm] at hk
        have hl2 : RI H2 l ns := sm _ _ hl
        have mlen := passN_len s k ns
        have mb := pass_bd hR hB k
        have hstep : passN s (k + 1) ns = midP s (passN s k ns) k := rfl
        rw [hstep]
        generalize passN s k ns = m at er mlen mb
        have hz2 : 2 ^ k * N * R ^ m.length ≤ 2 ^ ns.length * N * R ^ ns.length := by
          rw [mlen]
          exact Nat.mul_le_mul_right _ (Nat.mul_le_mul_right _ (Nat.pow_le_pow_right (by decide) (by omega)))
        refine ⟨_, rfl, l, _, rfl, .inl hl2.sq, _, _, rfl, rfl, _, rfl, _, _, rfl, rfl, _, rfl, _, _, _, _, rfl, RgC.neg (by rw [lm]; omega) (by rw [lm]; omega) (by omega) (by omega), for_rangeC (lo := (((ns.map V.int).length : Nat) : Int) - 1) (c := -1) (n := ((((ns.map V.int).length : Nat) : Int) - 1 - (0 + (k : Int) - 1)).toNat) (fun j σ H3 => ∃ v5, σ = [some (.ref l), some (.int s), some (.ref l'), some (.int (0 + (k : Int))), some (.int (hz s (m.drop (ns.length - j)))), v5] ∧ (∀ b o, H b = some o → H3 b = some o) ∧ RI H3 l' (midP s m (ns.length - j))) ⟨v5, ?_, sm, ?_⟩ ?_ ?_⟩
        · rw [Nat.sub_zero, ← mlen, List.drop_length]
          rfl
        · rw [Nat.sub_zero, ← mlen]
          show H2 l' = some (HO.lst ((midP s m m.length).map V.int))
          unfold midP
          rw [List.drop_length, List.take_length]
          show _ = some (HO.lst ((m ++ []).map V.int))
          rw [List.append_nil]
          exact er
        · rintro j σ H3 hj ⟨w5, rfl, sm3, er3⟩
          rw [lm] at hj
          have hp : ns.length - j = (ns.length - (j + 1)) + 1 := by omega
          have pl : ns.length - (j + 1) < m.length := by omega
          rw [hp] at er3 ⊢
          generalize hpp : ns.length - (j + 1) = p at *
          have ez : (((ns.map V.int).length : Nat) : Int) - 1 + (j : Int) * -1 = (p : Int) := by rw [lm]; omega
          rw [ez]
          have bz : (hz s (m.drop (p + 1))).natAbs < 2 ^ 8700 := by
            have z := hz_bd hR (mb.drop (p + 1))
            refine Nat.lt_of_le_of_lt z ?_
            refine Nat.lt_of_le_of_lt ?_ hz1
            refine Nat.le_trans (Nat.mul_le_mul_left (2 * (2 ^ k * N)) (Nat.pow_le_pow_right R0 (show (m.drop (p + 1)).length - 1 ≤ ns.length by rw [List.length_drop]; omega))) ?_
            refine Nat.mul_le_mul_right _ ?_
            rw [← Nat.mul_assoc, Nat.mul_comm 2 (2 ^ k), ← Nat.pow_succ]
            exact Nat.mul_le_mul_right _ (Nat.pow_le_pow_right (by decide) (by omega))
          have bs : s.natAbs < 2 ^ 8700 := by omega
          refine ⟨_, rfl, _, rfl, l', _, _, .int (ci m p), rfl, rfl, SqL.of er3, at_of (j := p) rfl (by rw [List.getElem?_map, midP_at pl]; rfl), _, rfl, _, rfl, _, _, rfl, rfl, big_mulW bs bz, _, _, rfl, rfl, ?_⟩
          refine ⟨_, rfl, _, rfl, _, rfl, l', _, _, p, rfl, rfl, er3, ?_, ?_⟩
          · rw [List.length_map, midP_len]
            exact ixN_k pl
          · refine ⟨_, by rw [drop_ci pl]; rfl, fun b o e => ?_, ?_⟩
            · rw [upd_ne (ml e)]
              exact sm3 _ _ e
            · show upd H3 l' _ l' = _
              rw [upd_same, ← List.map_set, midP_set pl]
        · rintro σ H3 ⟨w5, rfl, sm3, er3⟩
          refine ⟨_, _, _, rfl, sm3, ?_⟩
          rw [lm, show ns.length - (((ns.length : Nat) : Int) - 1 - (0 + (k : Int) - 1)).toNat = k by omega] at er3
          exact er3
      · rintro σ H2 ⟨v3, v4, v5, rfl, sm, er⟩
        refine ⟨_, rfl, q l' H2 sm ?_⟩
        rw [lm] at er
        rw [show ns.length - 1 = ((ns.length : Nat) - 1 : Int).toNat by omega]
        exact er
end

end Vf

set_option maxRecDepth 100000
set_option maxHeartbeats 8000000
namespace Vf
open PySem PySem.Spec PyProof.Rows L2
/-! ### ratios over one bottom; corners of a row -/
def RT (H : Hp) (t : Addr) (qs : List Rat) : Prop := ∃ as, H t = some (.tup (as.map V.ref)) ∧ Tups H as (qs.map pq)
theorem RT.same {H H' : Hp} {t : Addr} {qs : List Rat} (h : RT H t qs) (s : Same H H') : RT H' t qs := h.imp fun _ h => ⟨s _ _ h.1, h.2.same s⟩
def spRatios : Sp := fun vs H Q _ => ∃ (l : Addr) (ns : List Int) (b : Int) (qs : List Rat), vs = [.ref l, .int b] ∧ RI H l ns ∧ ns.length ≤ 100 ∧ b ≠ 0 ∧ b.natAbs < 2 ^ big ∧ qs.length = ns.length ∧ (∀ i, cf qs i * (b : Rat) = ((ci ns i : Int) : Rat)) ∧
  ∀ (t : Addr) (H' : Hp), Same H H' → RT H' t qs → Q (.ref t) H'
/-- the numbers of corners before they are added up -/
def cg (ns : List Int) (n S : Nat) (i : Nat) : Int := ci ns i * ((S : Int) / ((ch n i : Nat) : Int))
def spCorner : Sp := fun vs H Q _ => ∃ (l : Addr) (ns : List Int) (n N : Nat), vs = [.ref l, .int (n : Int)] ∧ RI H l ns ∧ ns.length ≤ n + 1 ∧ n ≤ 60 ∧ (∀ i, (ci ns i).natAbs ≤ N) ∧ N < 2 ^ 8700 ∧
  ∀ (t l' : Addr) (S : Nat) (H' : Hp), Same H H' → H' t = some (.tup [.ref l', .int (S : Int)]) → 0 < S → S ≤ (2 ^ n) ^ (n + 1) → (∀ k, k ≤ n → ch n k ∣ S) → RI H' l' (tabI (n + 1) (acc n (cg ns n S))) → Q (.ref t) H'
theorem tabI_take {n m : Nat} {g : Nat → Int} (h : m ≤ n) : (tabI n g).take m = tabI m g := by
  refine List.ext_getElem? fun i => ?_
  rw [List.getElem?_take]
  by_cases hi : i < m
  · rw [if_pos hi, ci_lt (by rw [tabI_len]; omega), ci_lt (by rw [tabI_len]; omega), ci_tab, ci_tab, if_pos (by omega), if_pos hi]
  · rw [if_neg hi, List.getElem?_eq_none_iff.mpr (by rw [tabI_len]; omega)]
theorem cut_from {xs : List V} {k : Nat} (h : k ≤ xs.length) : cutV xs (some (k : Int)) none = xs.drop k := by
  unfold cutV
  rw [HT.sIx_none, HT.sIx_nat, Nat.min_eq_left h, List.take_of_length_le (by rw [List.length_drop]; omega)]
section
variable {P : Program} {w : World} {K : PySem.W.Frag} {mg : Str → Option Value} {base : Heap} {CP CR CN CI : Addr}
abbrev sRatios : Stmt := topS 41
theorem scRatios : FnScope ["row", "bottom", "number"] ["row", "bottom"] (defScope sRatios) := ⟨rfl, rfl, rfl, by decide +kernel, rfl, by decide +kernel, by decide +kernel⟩
theorem ok_ratios {f : Addr} {fd : FuncData} (F : Fun K "ratios_over" "ratios_over" sRatios f fd) (T : Bk mg) (G_lowest : Df P w K mg base "lowest" 1 ["top", "bottom"] spLow) : FnOk P w K mg base CX0 2 f fd ["row", "bottom"] spRatios := by
  refine F.ok scRatios (fun vs H Q E h => ?_) (fun cdv A outer s H vs Q E hr h => ?_)
  · obtain ⟨l, ns, b, qs, rfl, _⟩ := h
    rfl
  · obtain ⟨l, ns, b, qs, rfl, hl, ln, b0, hb, hq, he, q⟩ := h
    refine ⟨_, (pss_one (ps_ret (pe_callTy call_tuple_of (by rfl) T.tuple (by decide +kernel) (pa_cons (pe_lc (own := [("number", 2)]) (g := (gName 2)) (tt := tYes) rfl scRatios.nd (pi_seq (pv 0)) (blkOk_by (N := ["row", "bottom", "number"]) (sc := defScope sRatios) (by decide +kernel)) (fun _ _ _ _ _ => pg_name (i := 2) scRatios.nd rfl (Or.inl rfl)) (fun _ _ _ _ _ => pts_nil) (fun _ _ _ _ _ => (pe_call G_lowest.ok (hr.mono (by decide)) rfl G_lowest.m G_lowest.kp G_lowest.b .nil pass0 (pa_cons (pv 2) (pa_cons (pv 1) pa_nil))))) pa_nil)))), ?_⟩
    refine ⟨_, rfl, l, rfl, lc_seq (xs := ns.map V.int) (.inl hl.sq) (fun D i H2 => Same H H2 ∧ ∃ as, H2 D = some (.lst (as.map V.ref)) ∧ Tups H2 as ((tab i (cf qs)).map pq) ∧ as.length = i) ?_ ?_ ?_ ?_⟩
    · intro D hD
      exact ⟨same_upd hD, [], upd_same, .nil, rfl⟩
    · intro D i H2 hD ⟨s2, _⟩
      exact ⟨same_sqL s2, same_sqT s2⟩
    · intro D i x H2 hD hi ⟨s2, as, eD, tD, la⟩
      rw [List.getElem?_map] at hi
      have hin : i < ns.length := by
        refine Decidable.byContradiction fun n => ?_
        rw [List.getElem?_eq_none_iff.mpr (by omega)] at hi
        cases hi
      rw [ci_lt hin] at hi
      cases hi
      refine ⟨rfl, ?_⟩
      refine ⟨_, rfl, _, rfl, _, _, rfl, b0, hb, fun r H3 s3 nr er => ?_⟩
      rw [low_mul b0 (he i)] at er
      have eD3 := s3 _ _ eD
      refine ⟨_, eD3, (by rw [List.length_map, sizeLine_eq]; omega), fun b' o' e' => ?_, as ++ [r], ?_, ?_, ?_⟩
      · rw [upd_ne (ne_of_none e' hD)]
        exact s3 _ _ (s2 _ _ e')
      · rw [upd_same, List.map_append]
        rfl
      · rw [tab_snoc]
        exact Tups.snocQ ((tD.same s3).lst eD3 upd_away) (upd_away _ _ (ne_of er eD3 (by intro z; cases z)) er)
      · rw [List.length_append, la]
        rfl
    · intro D H2 hD ⟨s2, as, eD, tD, la⟩
      rw [List.length_map] at tD
      refine ⟨D, _, rfl, .inl ⟨SqL.of eD, fun t nt => ?_⟩⟩
      have s3 := same_upd (o := HO.tup (as.map V.ref)) nt
      refine q t _ (s2.trans s3) ⟨as, upd_same, ?_⟩
      have : tab ns.length (cf qs) = qs := by
        rw [← hq]
        refine List.ext_getElem? fun i => ?_
        unfold tab
        rw [List.getElem?_map]
        by_cases h : i < qs.length
        · rw [List.getElem?_range h, List.getElem?_eq_getElem h, ← cf_lt h]; rfl
        · rw [List.getElem?_eq_none_iff.mpr (by rw [List.length_range]; omega), List.getElem?_eq_none_iff.mpr (show qs.length ≤ i by omega)]; rfl
      rw [this] at tD
      exact tD.same s3
abbrev sCorner : Stmt := topS 37
theorem scCorner : FnScope ["row", "degree", "ways", "power", "scale", "number", "found", "many", "first", "one", "other"] ["row", "degree"] (defScope sCorner) := ⟨rfl, rfl, rfl, by decide +kernel, rfl, by decide +kernel, by decide +kernel⟩
theorem ok_corner {f : Addr} {fd : FuncData} (F : Fun K "corner_row" "corner_row" sCorner f fd) (T : Bk mg) (hzip : mg "zip" = none) (hlcm : mg "lcm" = some (.builtin "math.lcm")) (hcomb : mg "comb" = some (.builtin "math.comb")) : FnOk P w K mg base CX0 1 f fd ["row", "degree"] spCorner := by
  refine F.ok scCorner (fun vs H Q E h => ?_) (fun cdv A outer s H vs Q E hr h => ?_)
  · obtain ⟨l, ns, n, N, rfl, _⟩ := h
    rfl
  · obtain ⟨l, ns, n, N, rfl, hl, ln, n60, hN, hN2, q⟩ := h
    refine ⟨_, (pss_cons (ps_setLc (i := 2) (own := [("power", 3)]) (g := (gName 3)) (tt := tYes) rfl scCorner.nd rfl rfl (sw_true rfl rfl rfl (by decide +kernel)) (pi_range1 (by rfl) T.range (pa_cons (pe_op op_add (pv 1) pe_int) pa_nil)) (blkOk_by (N := ["row", "degree", "ways", "power", "scale", "number", "found", "many", "first", "one", "other"]) (sc := defScope sCorner) (by decide +kernel)) (fun _ _ _ _ _ => pg_name (i := 3) scCorner.nd rfl (Or.inl rfl)) (fun _ _ _ _ _ => pts_nil) (fun _ _ _ _ _ => (pe_callBfun cr_comb (by rfl) hcomb (pa_cons (pv 1) (pa_cons (pv 3) pa_nil)))))
  (pss_cons (ps_set (i := 4) scCorner.nd rfl (Or.inr rfl) pe_int)
  (pss_cons (ps_for PassesOwn.never rfl (pi_seq (pv 2)) (pg_name (i := 5) scCorner.nd rfl (Or.inl rfl))
    (pss_one (ps_set (i := 4) scCorner.nd rfl (Or.inr rfl) (pe_callBfun cr_lcm (by rfl) hlcm (pa_cons (pv 4) (pa_cons (pv 5) pa_nil))))))
  (pss_cons (ps_setLc (i := 6) (own := [("number", 5), ("many", 7)]) (g := (gTup K 2 (gCons (gName 5) (gCons (gName 7) gNil)))) (tt := tYes) rfl scCorner.nd rfl rfl (sw_true rfl rfl rfl (by decide +kernel)) (pi_zipB (by rfl) hzip (pa_cons (pv 0) (pa_cons (pv 2) pa_nil))) (blkOk_by (N := ["row", "degree", "ways", "power", "scale", "number", "found", "many", "first", "one", "other"]) (sc := defScope sCorner) (by decide +kernel)) (fun _ _ _ _ _ => pg_tup rfl (pgs_cons (pg_name (i := 5) scCorner.nd rfl (Or.inl rfl)) (pgs_cons (pg_name (i := 7) scCorner.nd rfl (Or.inl rfl)) pgs_nil))) (fun _ _ _ _ _ => pts_nil) (fun _ _ _ _ _ => (pe_op op_mulW (pv 5) (pe_op op_fdivW (pv 4) (pv 7)))))
  (pss_cons (ps_set (i := 6) scCorner.nd rfl (Or.inl rfl) (pe_op op_cat (pv 6) (pe_op op_rep (pe_lst (pa_cons pe_int pa_nil)) (pe_op op_sub (pe_op op_add (pv 1) pe_int) (pe_callB call_len_seq (by rfl) T.len (by decide +kernel) (pa_cons (pv 6) pa_nil))))))
  (pss_cons (ps_for PassesOwn.never rfl (pi_range2 (by rfl) T.range (pa_cons pe_int (pa_cons (pe_op op_add (pv 1) pe_int) pa_nil))) (pg_name (i := 8) scCorner.nd rfl (Or.inl rfl))
    (pss_one (ps_set (i := 6) scCorner.nd rfl (Or.inl rfl) (pe_op op_cat (pe_slice sl_list (pv 6) po_none (po_some (pv 8))) (pe_lc (own := [("one", 9), ("other", 10)]) (g := (gTup K 2 (gCons (gName 9) (gCons (gName 10) gNil)))) (tt := tYes) rfl scCorner.nd (pi_zipB (by rfl) hzip (pa_cons (pe_slice sl_list (pv 6) (po_some (pv 8)) po_none) (pa_cons (pe_slice sl_list (pv 6) (po_some (pe_op op_sub (pv 8) pe_int)) po_none) pa_nil))) (blkOk_by (N := ["row", "degree", "ways", "power", "scale", "number", "found", "many", "first", "one", "other"]) (sc := defScope sCorner) (by decide +kernel)) (fun _ _ _ _ _ => pg_tup rfl (pgs_cons (pg_name (i := 9) scCorner.nd rfl (Or.inl rfl)) (pgs_cons (pg_name (i := 10) scCorner.nd rfl (Or.inl rfl)) pgs_nil))) (fun _ _ _ _ _ => pts_nil) (fun _ _ _ _ _ => (pe_op op_add (pv 9) (pv 10))))))))
  (pss_one (ps_ret (pe_tup (pa_cons (pv 6) (pa_cons (pv 4) pa_nil))))))))))), ?_⟩
    -- ways
    refine ⟨_, rfl, _, _, rfl, rfl, _, rfl, by omega, by omega, fun D hD => lc_range (lo := 0) (n := ((n : Int) + 1).toNat) (fun i H2 => Same H H2 ∧ RI H2 D (tabI i fun k => ((ch n k : Nat) : Int))) ⟨same_upd hD, upd_same⟩ ?_ ?_⟩
    · intro i H2 hi ⟨s2, e2⟩
      refine ⟨rfl, _, rfl, _, rfl, n, i, (by rw [Int.zero_add]), n60, by omega, ?_⟩
      refine ⟨_, e2, (by rw [List.length_map, tabI_len, sizeLine_eq]; omega), fun b' o' e' => ?_, ?_⟩
      · rw [upd_ne (ne_of_none e' hD)]
        exact s2 _ _ e'
      · show upd H2 D _ D = _
        rw [upd_same, tabI_snoc, List.map_append]
        rfl
    · intro H2 ⟨s2, e2⟩
      rw [show ((n : Int) + 1).toNat = n + 1 by omega] at e2
      clear hD
      -- the scale
      have lw : ((tabI (n + 1) fun k => ((ch n k : Nat) : Int)).map V.int).length = n + 1 := by rw [List.length_map, tabI_len]
      refine ⟨_, rfl, D, rfl, .inl ⟨_, e2.sq, for_list (K := K) (a := D) (xs := (tabI (n + 1) fun k => ((ch n k : Nat) : Int)).map V.int) (fun i σ H3 => ∃ (S : Nat) (v5 : Option V), σ = [some (.ref l), some (.int (n : Int)), some (.ref D), none, some (.int (S : Int)), v5, none, none, none, none, none] ∧ Same H2 H3 ∧ 0 < S ∧ S ≤ (2 ^ n) ^ i ∧ ∀ k, k < i → ch n k ∣ S) ⟨1, none, rfl, Same.refl _, by decide, by rw [Nat.pow_zero]; exact Nat.le_refl _, fun k hk => by omega⟩ (fun i σ H3 _ ⟨_, _, _, s3, _⟩ => (e2.same s3).sq) ?_ ?_⟩⟩
      · rintro i x σ H3 hi ⟨S, v5, rfl, s3, S0, Sb, Sd⟩
        have hin : i < n + 1 := by
          refine Decidable.byContradiction fun z => ?_
          rw [List.getElem?_eq_none_iff.mpr (by omega)] at hi
          cases hi
        rw [List.getElem?_map, ci_lt (by rw [tabI_len]; exact hin), ci_tab, if_pos hin] at hi
        cases hi
        have cp := ch_pos (show i ≤ n by omega)
        have cl := ch_le n i
        have b1 : S < 2 ^ 8800 := by
          refine Nat.lt_of_le_of_lt Sb ?_
          rw [← Nat.pow_mul]
          refine Nat.pow_lt_pow_right (by decide) ?_
          exact Nat.lt_of_le_of_lt (Nat.mul_le_mul n60 (show i ≤ 60 by omega)) (by decide)
        have b2 : ch n i < 2 ^ 8800 := Nat.lt_of_le_of_lt cl (Nat.pow_lt_pow_right (by decide) (by omega))
        refine ⟨_, rfl, _, rfl, _, _, rfl, by rw [Int.natAbs_natCast]; exact b1, by rw [Int.natAbs_natCast]; exact b2, ?_⟩
        rw [Int.natAbs_natCast, Int.natAbs_natCast]
        refine ⟨S.lcm (ch n i), _, rfl, s3, Nat.lcm_pos S0 cp, ?_, fun k hk => ?_⟩
        · refine Nat.le_trans (Nat.le_of_dvd (Nat.mul_pos S0 cp) (Nat.lcm_dvd_mul _ _)) ?_
          rw [Nat.pow_succ]
          exact Nat.mul_le_mul Sb cl
        · by_cases e : k = i
          · rw [e]; exact Nat.dvd_lcm_right _ _
          · exact Nat.dvd_trans (Sd k (by omega)) (Nat.dvd_lcm_left _ _)
      · rintro σ H3 ⟨S, v5, rfl, s3, S0, Sb, Sd⟩
        rw [lw] at Sb Sd
        have e3 := e2.same s3
        have hl3 := (hl.same s2).same s3
        have Sl : S < 2 ^ 8700 := by
          refine Nat.lt_of_le_of_lt Sb ?_
          rw [← Nat.pow_mul]
          refine Nat.pow_lt_pow_right (by decide) ?_
          exact Nat.lt_of_le_of_lt (Nat.mul_le_mul n60 (show n + 1 ≤ 61 by omega)) (by decide)
        -- the numbers over their ways
        have ll : (ns.map V.int).length = ns.length := List.length_map ..
        refine ⟨_, rfl, _, rfl, true, true, l, D, ns.map V.int, (tabI (n + 1) fun k => ((ch n k : Nat) : Int)).map V.int, rfl, hl3.sq, e3.sq, fun D2 hD2 => lc_zipM ns.length (by rw [ll, lw]; omega) (fun i H4 => Same H3 H4 ∧ RI H4 D2 (tabI i (cg ns n S))) ⟨same_upd hD2, upd_same⟩ (fun i H4 ⟨s4, _⟩ => ⟨(hl3.same s4).sq, (e3.same s4).sq⟩) ?_ ?_⟩
        · intro i x y T' H4 hi hx hy ⟨s4, e4⟩ nT
          rw [List.getElem?_map, ci_lt hi] at hx
          cases hx
          rw [List.getElem?_map, ci_lt (by rw [tabI_len]; omega), ci_tab, if_pos (by omega)] at hy
          cases hy
          have cp := ch_pos (show i ≤ n by omega)
          have b3 : (((S : Int) / ((ch n i : Nat) : Int))).natAbs < 2 ^ 8700 := by
            rw [← Int.natCast_ediv, Int.natAbs_natCast]
            exact Nat.lt_of_le_of_lt (Nat.div_le_self _ _) Sl
          have nTD : D2 ≠ T' := ne_of_none e4 nT
          have sT : Same H4 (upd H4 T' (.tup [.int (ci ns i), .int ((ch n i : Nat) : Int)])) := same_upd nT
          refine ⟨T', _, rfl, SqT.of upd_same, rfl, _, _, rfl, _, _, rfl, rfl, rfl, ?_⟩
          refine ⟨_, rfl, _, rfl, _, rfl, _, _, rfl, rfl, ?_, _, _, rfl, rfl, big_mulW (Nat.lt_of_le_of_lt (hN i) hN2) b3, ?_⟩
          · exact ⟨by omega, by rw [Int.natAbs_natCast]; exact Nat.lt_trans (log_4000 (Nat.lt_of_le_of_lt (ch_le n i) (Nat.pow_lt_pow_right (by decide) (show n < 8800 by omega)))) (by decide)⟩
          · refine ⟨_, sT _ _ e4, (by rw [List.length_map, tabI_len, sizeLine_eq]; omega), fun b' o' e' => ?_, ?_⟩
            · rw [upd_ne (ne_of_none e' hD2)]
              exact sT _ _ (s4 _ _ e')
            · show upd _ D2 _ D2 = _
              rw [upd_same, tabI_snoc, List.map_append]
              rfl
        · intro H4 ⟨s4, e4⟩
          clear hD2
          have lt : (tabI ns.length (cg ns n S)).length = ns.length := tabI_len _ _
          refine ⟨_, rfl, (by show 1 ≤ sizeLine; decide), fun z nz => ?_⟩
          have ez : upd H4 z (HO.lst [V.int 0]) z = some (HO.lst [V.int 0]) := upd_same
          have s5 : Same H4 (upd H4 z (HO.lst [V.int 0])) := same_upd nz
          try dsimp only [] at nz ⊢
          generalize upd H4 z (HO.lst [V.int 0]) = H5 at ez s5 ⊢
          have e5 := e4.same s5
          refine ⟨_, rfl, _, _, rfl, rfl, _, rfl, D2, _, rfl, .inl e5.sq, _, _, rfl, rfl, ?_⟩
          rw [List.length_map, lt]
          refine ⟨z, _, _, rfl, rfl, ez, by omega, by omega, ?_, fun z2 nz2 => ?_⟩
          · show 1 * _ ≤ sizeLine
            rw [sizeLine_eq]
            omega
          have ez2 : upd H5 z2 (HO.lst (List.replicate ((n : Int) + 1 - (ns.length : Nat)).toNat [V.int 0]).flatten) z2 = some (HO.lst (List.replicate ((n : Int) + 1 - (ns.length : Nat)).toNat (V.int 0))) := by
            rw [upd_same, List.flatten_replicate_singleton]
          have s6 : Same H5 (upd H5 z2 (HO.lst (List.replicate ((n : Int) + 1 - (ns.length : Nat)).toNat [V.int 0]).flatten)) := same_upd nz2
          generalize upd H5 z2 (HO.lst (List.replicate ((n : Int) + 1 - (ns.length : Nat)).toNat [V.int 0]).flatten) = H6 at ez2 s6 ⊢
          have e6 := e5.same s6
          refine ⟨D2, z2, _, _, rfl, rfl, e6, ez2, (by rw [List.length_map, lt, List.length_replicate, sizeLine_eq]; omega), fun D3 n3 => ?_⟩
          have ex : (tabI ns.length (cg ns n S)).map V.int ++ List.replicate ((n : Int) + 1 - (ns.length : Nat)).toNat (V.int 0) = (tabI (n + 1) (cg ns n S)).map V.int := by
            have : List.replicate ((n : Int) + 1 - (ns.length : Nat)).toNat (V.int 0) = (List.replicate (n + 1 - ns.length) (0 : Int)).map V.int := by
              rw [List.map_replicate, show ((n : Int) + 1 - (ns.length : Nat)).toNat = n + 1 - ns.length by omega]
            rw [this, ← List.map_append]
            congr 1
            refine List.ext_getElem? fun i => ?_
            by_cases h : i < ns.length
            · rw [List.getElem?_append_left (by rw [lt]; exact h), ci_lt (by rw [lt]; exact h), ci_lt (by rw [tabI_len]; omega), ci_tab, ci_tab, if_pos h, if_pos (by omega)]
            · rw [List.getElem?_append_right (by rw [lt]; omega), lt]
              by_cases h2 : i < n + 1
              · rw [List.getElem?_replicate, if_pos (by omega), ci_lt (by rw [tabI_len]; omega), ci_tab, if_pos h2]
                unfold cg
                rw [ci_ge (by omega), Int.zero_mul]
              · rw [List.getElem?_replicate, if_neg (by omega), List.getElem?_eq_none_iff.mpr (by rw [tabI_len]; omega)]
          have e7 : RI (upd H6 D3 (HO.lst ((tabI ns.length (cg ns n S)).map V.int ++ List.replicate ((n : Int) + 1 - (ns.length : Nat)).toNat (V.int 0)))) D3 (tabI (n + 1) (cg ns n S)) := by
            show upd H6 D3 _ D3 = _
            rw [upd_same, ex]
          have s7 : Same H6 (upd H6 D3 (HO.lst ((tabI ns.length (cg ns n S)).map V.int ++ List.replicate ((n : Int) + 1 - (ns.length : Nat)).toNat (V.int 0)))) := same_upd n3
          generalize upd H6 D3 (HO.lst ((tabI ns.length (cg ns n S)).map V.int ++ List.replicate ((n : Int) + 1 - (ns.length : Nat)).toNat (V.int 0))) = H7 at e7 s7 ⊢
          have s27 : Same H H7 := s2.trans (s3.trans (s4.trans (s5.trans (s6.trans s7))))
          -- added up
          have nn : ((n : Int) + 1 - 1).toNat = n := by omega
          refine ⟨_, rfl, _, _, rfl, rfl, _, _, rfl, ⟨by decide, by decide, by omega, by omega⟩, for_range (lo := 1) (n := ((n : Int) + 1 - 1).toNat) (fun m σ H8 => ∃ (D4 : Addr) (v8 : Option V), σ = [some (.ref l), some (.int (n : Int)), some (.ref D), none, some (.int (S : Int)), v5, some (.ref D4), none, v8, none, none] ∧ Same H H8 ∧ RI H8 D4 (tabI (n + 1) (acc m (cg ns n S)))) ⟨D3, none, rfl, s27, e7⟩ ?_ ?_⟩
          · rintro m σ H8 hm ⟨D4, v8, rfl, s8, e8⟩
            rw [nn] at hm
            generalize hg : acc m (cg ns n S) = g at e8
            have l8 : (tabI (n + 1) g).length = n + 1 := tabI_len _ _
            refine ⟨_, rfl, _, rfl, _, rfl, D4, _, rfl, e8.sq, fun A1 nA1 => ?_⟩
            have eA1 : upd H8 A1 (HO.lst (cutV ((tabI (n + 1) g).map V.int) none (some (1 + (m : Int))))) A1 = some (HO.lst ((tabI (m + 1) g).map V.int)) := by
              rw [upd_same, show (1 + (m : Int)) = ((m + 1 : Nat) : Int) by omega, cut_to, ← List.map_take, tabI_take (by omega)]
            have s9 : Same H8 (upd H8 A1 (HO.lst (cutV ((tabI (n + 1) g).map V.int) none (some (1 + (m : Int)))))) := same_upd nA1
            generalize upd H8 A1 (HO.lst (cutV ((tabI (n + 1) g).map V.int) none (some (1 + (m : Int))))) = H9 at eA1 s9 ⊢
            have e9 := e8.same s9
            refine ⟨_, rfl, _, rfl, _, rfl, D4, _, rfl, e9.sq, fun A2 nA2 => ?_⟩
            have eA2 : RI (upd H9 A2 (HO.lst (cutV ((tabI (n + 1) g).map V.int) (some (1 + (m : Int))) none))) A2 ((tabI (n + 1) g).drop (m + 1)) := by
              show upd H9 A2 _ A2 = _
              rw [upd_same, show (1 + (m : Int)) = ((m + 1 : Nat) : Int) by omega, cut_from (by rw [List.length_map, l8]; omega), List.map_drop]
            have s10 : Same H9 (upd H9 A2 (HO.lst (cutV ((tabI (n + 1) g).map V.int) (some (1 + (m : Int))) none))) := same_upd nA2
            generalize upd H9 A2 (HO.lst (cutV ((tabI (n + 1) g).map V.int) (some (1 + (m : Int))) none)) = H10 at eA2 s10 ⊢
            have e10 := e9.same s10
            refine ⟨_, rfl, _, rfl, _, _, rfl, rfl, _, rfl, D4, _, rfl, e10.sq, fun A3 nA3 => ?_⟩
            have eA3 : RI (upd H10 A3 (HO.lst (cutV ((tabI (n + 1) g).map V.int) (some (1 + (m : Int) - 1)) none))) A3 ((tabI (n + 1) g).drop m) := by
              show upd H10 A3 _ A3 = _
              rw [upd_same, show (1 + (m : Int) - 1) = (m : Int) by omega, cut_from (by rw [List.length_map, l8]; omega), List.map_drop]
            have s11 : Same H10 (upd H10 A3 (HO.lst (cutV ((tabI (n + 1) g).map V.int) (some (1 + (m : Int) - 1)) none))) := same_upd nA3
            generalize upd H10 A3 (HO.lst (cutV ((tabI (n + 1) g).map V.int) (some (1 + (m : Int) - 1)) none)) = H11 at eA3 s11 ⊢
            have eA2' := eA2.same s11
            have eA1' := s11 _ _ (s10 _ _ eA1)
            have dl1 : ((tabI (n + 1) g).drop (m + 1)).length = n - m := by rw [List.length_drop, l8]; omega
            have dl2 : ((tabI (n + 1) g).drop m).length = n + 1 - m := by rw [List.length_drop, l8]
            have dci : ∀ k i, k + i < n + 1 → ((tabI (n + 1) g).drop k)[i]? = some (g (k + i)) := fun k i hki => by
              rw [List.getElem?_drop, ci_lt (by rw [l8]; exact hki), ci_tab, if_pos hki]
            refine ⟨true, true, A2, A3, ((tabI (n + 1) g).drop (m + 1)).map V.int, ((tabI (n + 1) g).drop m).map V.int, rfl, eA2'.sq, eA3.sq, fun D5 nD5 => lc_zipM (n - m) (by rw [List.length_map, List.length_map, dl1, dl2]; omega) (fun i H12 => Same H11 H12 ∧ RI H12 D5 (tabI i fun i => g (m + 1 + i) + g (m + i))) ⟨same_upd nD5, upd_same⟩ (fun i H12 ⟨s12, _⟩ => ⟨(eA2'.same s12).sq, (eA3.same s12).sq⟩) ?_ ?_⟩
            · intro i x y T' H12 hi hx hy ⟨s12, e12⟩ nT
              rw [List.getElem?_map, dci _ _ (by omega)] at hx
              cases hx
              rw [List.getElem?_map, dci _ _ (by omega)] at hy
              cases hy
              have nTD : D5 ≠ T' := ne_of_none e12 nT
              have sT : Same H12 (upd H12 T' (.tup [.int (g (m + 1 + i)), .int (g (m + i))])) := same_upd nT
              refine ⟨T', _, rfl, SqT.of upd_same, rfl, _, _, rfl, _, _, rfl, rfl, rfl, ?_⟩
              refine ⟨_, rfl, _, rfl, _, _, rfl, rfl, ?_⟩
              refine ⟨_, sT _ _ e12, (by rw [List.length_map, tabI_len, sizeLine_eq]; omega), fun b' o' e' => ?_, ?_⟩
              · rw [upd_ne (ne_of_none e' nD5)]
                exact sT _ _ (s12 _ _ e')
              · show upd _ D5 _ D5 = _
                rw [upd_same, tabI_snoc, List.map_append]
                rfl
            · intro H12 ⟨s12, e12⟩
              refine ⟨A1, D5, _, _, rfl, rfl, s12 _ _ eA1', e12, (by rw [List.length_map, List.length_map, tabI_len, tabI_len, sizeLine_eq]; omega), fun D6 nD6 => ?_⟩
              refine ⟨D6, _, rfl, (s8.trans (s9.trans (s10.trans (s11.trans s12)))).trans (same_upd nD6), ?_⟩
              show upd _ D6 _ D6 = _
              rw [upd_same, ← List.map_append]
              congr 3
              refine List.ext_getElem? fun i => ?_
              subst hg
              by_cases h1 : i < m + 1
              · rw [List.getElem?_append_left (by rw [tabI_len]; exact h1), ci_lt (by rw [tabI_len]; exact h1), ci_lt (by rw [tabI_len]; omega), ci_tab, ci_tab, if_pos h1, if_pos (by omega)]
                show some _ = some (if i < m + 1 then _ else _)
                rw [if_pos h1]
              · rw [List.getElem?_append_right (by rw [tabI_len]; omega), tabI_len]
                by_cases h2 : i < n + 1
                · rw [ci_lt (by rw [tabI_len]; omega), ci_lt (by rw [tabI_len]; omega), ci_tab, ci_tab, if_pos (by omega), if_pos h2]
                  show some (_ + _) = some (if i < m + 1 then _ else _)
                  rw [if_neg h1, show m + 1 + (i - (m + 1)) = i by omega, show m + (i - (m + 1)) = i - 1 by omega]
                · rw [List.getElem?_eq_none_iff.mpr (by rw [tabI_len]; omega), List.getElem?_eq_none_iff.mpr (by rw [tabI_len]; omega)]
          · rintro σ H8 ⟨D4, v8, rfl, s8, e8⟩
            rw [nn] at e8
            refine ⟨_, rfl, _, rfl, (by show 2 ≤ sizeLine; decide), fun t nt => ?_⟩
            have s9 : Same H8 (upd H8 t (HO.tup [V.ref D4, V.int (S : Int)])) := same_upd nt
            exact q t D4 S _ (s8.trans s9) upd_same S0 Sb (fun k hk => Sd k (by omega)) (e8.same s9)
end

end Vf

set_option maxRecDepth 100000
set_option maxHeartbeats 8000000
namespace Vf
open PySem PySem.Spec PyProof.Rows L2
/-! ### rows over one bottom, stretched -/
theorem Fr.den {M N : Nat} {r : Rat} (h : Fr M N r) : r.den ∣ M := by
  obtain ⟨n, e, _⟩ := h
  have h1 : r.num * (M : Int) = n * (r.den : Int) := by
    have e1 := num_den r
    have : ((r.num * (M : Int) : Int) : Rat) = ((n * (r.den : Int) : Int) : Rat) := by
      rw [Rat.intCast_mul, Rat.intCast_mul, ← e, ← e1]
      show r * (r.den : Rat) * (M : Rat) = r * (M : Rat) * (r.den : Rat)
      grind
    exact_mod_cast this
  have h2 : (r.den : Int) ∣ r.num * (M : Int) := ⟨n, by rw [h1, Int.mul_comm]⟩
  have h3 : r.den ∣ r.num.natAbs * M := by
    have := Int.natAbs_dvd_natAbs.mpr h2
    rw [Int.natAbs_natCast, Int.natAbs_mul, Int.natAbs_natCast] at this
    exact this
  exact Nat.Coprime.dvd_of_dvd_mul_left r.reduced.symm h3
theorem Fr.over {M N b : Nat} {q : Rat} {z : Int} (h : Fr M N q) (hb : b ∣ M) (hM : 0 < M) (e : q * (b : Rat) = (z : Rat)) : z.natAbs ≤ N := by
  obtain ⟨n, e2, hn⟩ := h
  obtain ⟨k, rfl⟩ := hb
  have : ((z * (k : Int) : Int) : Rat) = ((n : Int) : Rat) := by
    rw [Rat.intCast_mul, ← e, ← e2, Rat.natCast_mul]
    show q * (b : Rat) * (k : Rat) = q * ((b : Rat) * (k : Rat))
    grind
  have h1 : z * (k : Int) = n := by exact_mod_cast this
  have k0 : 0 < k := Nat.pos_of_mul_pos_left hM
  have h2 : n.natAbs = z.natAbs * k := by rw [← h1, Int.natAbs_mul, Int.natAbs_natCast]
  have := Nat.le_mul_of_pos_right z.natAbs k0
  omega
def spOver2 (K : PySem.W.Frag) : Sp := fun vs H Q _ => ∃ (l : Addr) (a : List Rat) (M N : Nat), vs = [.ref l] ∧ RS K H l a ∧ a.length ≤ 100 ∧ (∀ i, Fr M N (cf a i)) ∧ 0 < M ∧ M < 2 ^ 8700 ∧ N < 2 ^ 8700 ∧
  ∀ (t l' : Addr) (b : Nat) (ns : List Int) (H' : Hp), Same H H' → H' t = some (.tup [.ref l', .int (b : Int)]) → RI H' l' ns → 0 < b → b ≤ M → ns.length = a.length → (∀ i, cf a i * (b : Rat) = ((ci ns i : Int) : Rat)) → (∀ i, (ci ns i).natAbs ≤ N) → Q (.ref t) H'
section
variable {P : Program} {w : World} {K : PySem.W.Frag} {mg : Str → Option Value} {base : Heap} {CP CR CN CI : Addr}
abbrev sOver2 : Stmt := topS 31
theorem scOver2 : FnScope ["numbers", "below", "number", "top", "bottom"] ["numbers"] (defScope sOver2) := ⟨rfl, rfl, rfl, by decide +kernel, rfl, by decide +kernel, by decide +kernel⟩
theorem ok_over2 {f : Addr} {fd : FuncData} (F : Fun K "over_one_bottom" "over_one_bottom" sOver2 f fd) (hlcm : mg "lcm" = some (.builtin "math.lcm")) : FnOk P w K mg base CX0 1 f fd ["numbers"] (spOver2 K) := by
  refine F.ok scOver2 (fun vs H Q E h => ?_) (fun cdv A outer s H vs Q E hr h => ?_)
  · obtain ⟨l, a, M, N, rfl, _⟩ := h
    rfl
  · obtain ⟨l, a, M, N, rfl, ⟨as, hS, t1⟩, la, hF, hM, hM2, hN2, q⟩ := h
    refine ⟨_, (pss_cons (ps_set (i := 1) scOver2.nd rfl (Or.inr rfl) pe_int)
  (pss_cons (ps_for PassesOwn.never rfl (pi_seq (pv 0)) (pg_name (i := 2) scOver2.nd rfl (Or.inl rfl))
    (pss_one (ps_set (i := 1) scOver2.nd rfl (Or.inr rfl) (pe_callBfun cr_lcm (by rfl) hlcm (pa_cons (pv 1) (pa_cons (pe_ix ix_tup (pv 2) pe_int (fun _ _ => rfl)) pa_nil))))))
  (pss_one (ps_ret (pe_tup (pa_cons (pe_lc (own := [("top", 3), ("bottom", 4)]) (g := (gTup K 2 (gCons (gName 3) (gCons (gName 4) gNil)))) (tt := tYes) rfl scOver2.nd (pi_seq (pv 0)) (blkOk_by (N := ["numbers", "below", "number", "top", "bottom"]) (sc := defScope sOver2) (by decide +kernel)) (fun _ _ _ _ _ => pg_tup rfl (pgs_cons (pg_name (i := 3) scOver2.nd rfl (Or.inl rfl)) (pgs_cons (pg_name (i := 4) scOver2.nd rfl (Or.inl rfl)) pgs_nil))) (fun _ _ _ _ _ => pts_nil) (fun _ _ _ _ _ => (pe_op op_mulW (pv 3) (pe_op op_fdivW (pv 1) (pv 4))))) (pa_cons (pv 1) pa_nil))))))), ?_⟩
    have n1 := t1.lenQ
    have lm : (as.map V.ref).length = a.length := by rw [List.length_map, n1]
    have dM : ∀ i, (cf a i).den ∣ M := fun i => (hF i).den
    have hSS := hS
    let Pv : Nat → L2.St → Hp → Prop := fun i σ H' => ∃ (b : Nat) (v : Option V), σ = [some (.ref l), some (.int (b : Int)), v, none, none] ∧ Same H H' ∧ 0 < b ∧ b ∣ M ∧ ∀ j, j < i → (cf a j).den ∣ b
    refine ⟨_, rfl, l, rfl, ?_⟩
    have h0 : Pv 0 [some (.ref l), some (.int ((1 : Nat) : Int)), none, none, none] H := ⟨1, none, rfl, Same.refl _, by decide, Nat.one_dvd _, fun j hj => by omega⟩
    rcases hS with hS | hS
    · refine .inl ⟨_, hS, for_list (K := K) (a := l) (xs := as.map V.ref) Pv h0 (fun i σ H' _ ⟨_, _, _, ss, _⟩ => same_sqL ss hS) ?_ ?_⟩
      · rintro i x σ H' hi ⟨b, v, rfl, ss, b0, bi, dv⟩
        rw [List.getElem?_map] at hi
        cases hr0 : as[i]? with
        | none => rw [hr0] at hi; cases hi
        | some r =>
          rw [hr0] at hi
          cases hi
          obtain ⟨qq, hq1, hq2⟩ := t1.atQ hr0
          have hc := cf_get hq1
          have bM := Nat.le_of_dvd hM bi
          have hd : qq.den ≤ M := by rw [← hc]; exact Nat.le_of_dvd hM (dM i)
          have hd0 := qq.den_pos
          have up : ∀ {z : Nat}, z ≤ M → z < 2 ^ 8800 := fun h => Nat.lt_of_le_of_lt h (Nat.lt_trans hM2 (Nat.pow_lt_pow_right (by decide) (by decide)))
          refine ⟨_, rfl, _, rfl, r, _, _, .int (qq.den : Int), rfl, rfl, SqT.of (ss _ _ hq2), at_of (j := 1) rfl rfl, _, _, rfl, by rw [Int.natAbs_natCast]; exact up bM, by rw [Int.natAbs_natCast]; exact up hd, ?_⟩
          rw [Int.natAbs_natCast, Int.natAbs_natCast]
          refine ⟨b.lcm qq.den, _, rfl, ss, Nat.lcm_pos b0 hd0, Nat.lcm_dvd bi (by rw [← hc]; exact dM i), fun j hj => ?_⟩
          by_cases e : j = i
          · rw [e, hc]
            exact Nat.dvd_lcm_right _ _
          · exact Nat.dvd_trans (dv j (by omega)) (Nat.dvd_lcm_left _ _)
      · rintro σ H' ⟨b, v, rfl, ss, b0, bi, dv⟩
        rw [lm] at dv
        have bM := Nat.le_of_dvd hM bi
        have t1' := t1.same ss
        let g : Nat → Int := fun i => (cf a i).num * ((b : Int) / ((cf a i).den : Int))
        refine ⟨_, rfl, l, rfl, lc_seq (xs := as.map V.ref) (hSS.imp (same_sqL ss) (same_sqT ss)) (fun D i H2 => Same H' H2 ∧ H2 D = some (.lst ((tabI i g).map V.int))) ?_ ?_ ?_ ?_⟩
        · intro D hD
          exact ⟨same_upd hD, upd_same⟩
        · intro D i H2 hD ⟨s2, _⟩
          exact ⟨same_sqL s2, same_sqT s2⟩
        · intro D i x H2 hD hi ⟨s2, eD⟩
          rw [List.getElem?_map] at hi
          cases hr0 : as[i]? with
          | none => rw [hr0] at hi; cases hi
          | some r =>
            rw [hr0] at hi
            cases hi
            obtain ⟨qq, hq1, hq2⟩ := t1'.atQ hr0
            have hc := cf_get hq1
            have hi13 := (List.getElem?_eq_some_iff.mp hr0).1
            have h1 : (qq.num).natAbs < 2 ^ 8700 := by
              have := ((hF i).size hM).1
              rw [hc] at this
              exact Nat.lt_of_le_of_lt this hN2
            have h2 : ((b : Int) / (qq.den : Int)).natAbs < 2 ^ 8700 := by
              rw [← Int.natCast_ediv, Int.natAbs_natCast]
              exact Nat.lt_of_le_of_lt (Nat.le_trans (Nat.div_le_self _ _) bM) hM2
            refine ⟨r, _, rfl, SqT.of (s2 _ _ hq2), rfl, _, _, rfl, _, _, rfl, rfl, rfl, ?_⟩
            refine ⟨_, rfl, _, rfl, _, rfl, _, _, rfl, rfl, ?_, _, _, rfl, rfl, big_mulW h1 h2, ?_⟩
            · have := qq.den_pos
              refine ⟨by omega, ?_⟩
              rw [Int.natAbs_natCast]
              have h3 : qq.den < 2 ^ 8800 := Nat.lt_of_le_of_lt (show qq.den ≤ M by rw [← hc]; exact Nat.le_of_dvd hM (dM i)) (Nat.lt_trans hM2 (Nat.pow_lt_pow_right (by decide) (by decide)))
              exact Nat.lt_trans (log_4000 h3) (by decide)
            · refine ⟨_, eD, ?_, (fun b' o' e' => ?_), ?_⟩
              · rw [List.length_map, tabI_len, sizeLine_eq]
                omega
              · rw [upd_ne (ne_of_none e' hD)]
                exact s2 _ _ e'
              · rw [upd_same, tabI_snoc, List.map_append]
                show _ = some (HO.lst (_ ++ [V.int (g i)]))
                simp only [g, hc]
        · intro D H2 hD ⟨s2, eD⟩
          rw [lm] at eD
          refine ⟨_, rfl, (by show 2 ≤ sizeLine; decide), fun r nr => ?_⟩
          have s3 : Same H2 (upd H2 r (HO.tup [V.ref D, V.int (b : Int)])) := same_upd nr
          have ee : ∀ i, cf a i * (b : Rat) = ((ci (tabI a.length g) i : Int) : Rat) := fun i => by
            rw [ci_tab]
            by_cases hi : i < a.length
            · rw [if_pos hi]
              exact over_one (dv i hi)
            · rw [if_neg hi, cf_ge (by omega), Rat.zero_mul]
              rfl
          exact q r D b _ _ ((ss.trans s2).trans s3) upd_same (s3 _ _ eD) b0 bM (tabI_len _ _) ee fun i => (hF i).over bi hM (ee i)
    · refine .inr ⟨_, hS, for_tup (K := K) (a := l) (xs := as.map V.ref) Pv h0 (fun i σ H' _ ⟨_, _, _, ss, _⟩ => same_sqT ss hS) ?_ ?_⟩
      · rintro i x σ H' hi ⟨b, v, rfl, ss, b0, bi, dv⟩
        rw [List.getElem?_map] at hi
        cases hr0 : as[i]? with
        | none => rw [hr0] at hi; cases hi
        | some r =>
          rw [hr0] at hi
          cases hi
          obtain ⟨qq, hq1, hq2⟩ := t1.atQ hr0
          have hc := cf_get hq1
          have bM := Nat.le_of_dvd hM bi
          have hd : qq.den ≤ M := by rw [← hc]; exact Nat.le_of_dvd hM (dM i)
          have hd0 := qq.den_pos
          have up : ∀ {z : Nat}, z ≤ M → z < 2 ^ 8800 := fun h => Nat.lt_of_le_of_lt h (Nat.lt_trans hM2 (Nat.pow_lt_pow_right (by decide) (by decide)))
          refine ⟨_, rfl, _, rfl, r, _, _, .int (qq.den : Int), rfl, rfl, SqT.of (ss _ _ hq2), at_of (j := 1) rfl rfl, _, _, rfl, by rw [Int.natAbs_natCast]; exact up bM, by rw [Int.natAbs_natCast]; exact up hd, ?_⟩
          rw [Int.natAbs_natCast, Int.natAbs_natCast]
          refine ⟨b.lcm qq.den, _, rfl, ss, Nat.lcm_pos b0 hd0, Nat.lcm_dvd bi (by rw [← hc]; exact dM i), fun j hj => ?_⟩
          by_cases e : j = i
          · rw [e, hc]
            exact Nat.dvd_lcm_right _ _
          · exact Nat.dvd_trans (dv j (by omega)) (Nat.dvd_lcm_left _ _)
      · rintro σ H' ⟨b, v, rfl, ss, b0, bi, dv⟩
        rw [lm] at dv
        have bM := Nat.le_of_dvd hM bi
        have t1' := t1.same ss
        let g : Nat → Int := fun i => (cf a i).num * ((b : Int) / ((cf a i).den : Int))
        refine ⟨_, rfl, l, rfl, lc_seq (xs := as.map V.ref) (hSS.imp (same_sqL ss) (same_sqT ss)) (fun D i H2 => Same H' H2 ∧ H2 D = some (.lst ((tabI i g).map V.int))) ?_ ?_ ?_ ?_⟩
        · intro D hD
          exact ⟨same_upd hD, upd_same⟩
        · intro D i H2 hD ⟨s2, _⟩
          exact ⟨same_sqL s2, same_sqT s2⟩
        · intro D i x H2 hD hi ⟨s2, eD⟩
          rw [List.getElem?_map] at hi
          cases hr0 : as[i]? with
          | none => rw [hr0] at hi; cases hi
          | some r =>
            rw [hr0] at hi
            cases hi
            obtain ⟨qq, hq1, hq2⟩ := t1'.atQ hr0
            have hc := cf_get hq1
            have hi13 := (List.getElem?_eq_some_iff.mp hr0).1
            have h1 : (qq.num).natAbs < 2 ^ 8700 := by
              have := ((hF i).size hM).1
              rw [hc] at this
              exact Nat.lt_of_le_of_lt this hN2
            have h2 : ((b : Int) / (qq.den : Int)).natAbs < 2 ^ 8700 := by
              rw [← Int.natCast_ediv, Int.natAbs_natCast]
              exact Nat.lt_of_le_of_lt (Nat.le_trans (Nat.div_le_self _ _) bM) hM2
            refine ⟨r, _, rfl, SqT.of (s2 _ _ hq2), rfl, _, _, rfl, _, _, rfl, rfl, rfl, ?_⟩
            refine ⟨_, rfl, _, rfl, _, rfl, _, _, rfl, rfl, ?_, _, _, rfl, rfl, big_mulW h1 h2, ?_⟩
            · have := qq.den_pos
              refine ⟨by omega, ?_⟩
              rw [Int.natAbs_natCast]
              have h3 : qq.den < 2 ^ 8800 := Nat.lt_of_le_of_lt (show qq.den ≤ M by rw [← hc]; exact Nat.le_of_dvd hM (dM i)) (Nat.lt_trans hM2 (Nat.pow_lt_pow_right (by decide) (by decide)))
              exact Nat.lt_trans (log_4000 h3) (by decide)
            · refine ⟨_, eD, ?_, (fun b' o' e' => ?_), ?_⟩
              · rw [List.length_map, tabI_len, sizeLine_eq]
                omega
              · rw [upd_ne (ne_of_none e' hD)]
                exact s2 _ _ e'
              · rw [upd_same, tabI_snoc, List.map_append]
                show _ = some (HO.lst (_ ++ [V.int (g i)]))
                simp only [g, hc]
        · intro D H2 hD ⟨s2, eD⟩
          rw [lm] at eD
          refine ⟨_, rfl, (by show 2 ≤ sizeLine; decide), fun r nr => ?_⟩
          have s3 : Same H2 (upd H2 r (HO.tup [V.ref D, V.int (b : Int)])) := same_upd nr
          have ee : ∀ i, cf a i * (b : Rat) = ((ci (tabI a.length g) i : Int) : Rat) := fun i => by
            rw [ci_tab]
            by_cases hi : i < a.length
            · rw [if_pos hi]
              exact over_one (dv i hi)
            · rw [if_neg hi, cf_ge (by omega), Rat.zero_mul]
              rfl
          exact q r D b _ _ ((ss.trans s2).trans s3) upd_same (s3 _ _ eD) b0 bM (tabI_len _ _) ee fun i => (hF i).over bi hM (ee i)
end

end Vf

set_option maxRecDepth 100000
namespace Vf
theorem ci_rev {ns : List Int} {i : Nat} (h : i < ns.length) : ci ns.reverse i = ci ns (ns.length - 1 - i) := by
  refine ci_get ?_
  rw [List.getElem?_reverse h, ci_lt (by omega)]
theorem pow_mulR (x y : Rat) : ∀ n : Nat, (x * y) ^ n = x ^ n * y ^ n
  | 0 => by rw [Rat.pow_zero, Rat.pow_zero, Rat.pow_zero]; grind
  | n + 1 => by rw [Rat.pow_succ, Rat.pow_succ, Rat.pow_succ, pow_mulR x y n]; grind
theorem pow_addR (x : Rat) (m : Nat) : ∀ n : Nat, x ^ (m + n) = x ^ m * x ^ n
  | 0 => by rw [Nat.add_zero, Rat.pow_zero]; grind
  | n + 1 => by rw [← Nat.add_assoc, Rat.pow_succ, Rat.pow_succ, pow_addR x m n]; grind
theorem pow_castI (z : Int) : ∀ n : Nat, ((z ^ n : Int) : Rat) = (z : Rat) ^ n
  | 0 => by rw [Int.pow_zero, Rat.pow_zero]; rfl
  | n + 1 => by rw [Int.pow_succ, Rat.pow_succ, Rat.intCast_mul, pow_castI z n]
def rowA (ns : List Int) (B : Int) : List Int := (tabI ns.length fun i => ci ns.reverse i * B ^ i).reverse
theorem rowA_len (ns : List Int) (B : Int) : (rowA ns B).length = ns.length := by unfold rowA; rw [List.length_reverse, tabI_len]
theorem ci_rowA {ns : List Int} {B : Int} {i : Nat} : ci (rowA ns B) i = if i < ns.length then ci ns i * B ^ (ns.length - 1 - i) else 0 := by
  by_cases h : i < ns.length
  · rw [if_pos h]
    unfold rowA
    rw [ci_rev (by rw [tabI_len]; exact h), tabI_len, ci_tab, if_pos (by omega), ci_rev (by omega), show ns.length - 1 - (ns.length - 1 - i) = i by omega]
  · rw [if_neg h, ci_ge (by rw [rowA_len]; omega)]
theorem ev_rowA (ns : List Int) (B : Int) (y : Rat) : ev (qi (rowA ns B)) (y * (B : Rat)) = (B : Rat) ^ (ns.length - 1) * ev (qi ns) y := by
  rw [ev_sm _ _ ns.length (by rw [qi_len, rowA_len]; exact Nat.le_refl _), ev_sm _ _ ns.length (by rw [qi_len]; exact Nat.le_refl _), ← sm_mull]
  refine sm_ext fun i hi => ?_
  rw [cf_qi, cf_qi, ci_rowA, if_pos hi, Rat.intCast_mul, pow_castI, pow_mulR]
  have : (B : Rat) ^ (ns.length - 1) = (B : Rat) ^ (ns.length - 1 - i) * (B : Rat) ^ i := by rw [← pow_addR, show ns.length - 1 - i + i = ns.length - 1 by omega]
  rw [this]
  grind
theorem ev_scaled (ms : List Int) (p : Int) (z : Rat) : ev (qi (tabI ms.length fun i => ci ms i * p ^ i)) z = ev (qi ms) (z * (p : Rat)) := by
  rw [ev_sm _ _ ms.length (by rw [qi_len, tabI_len]; exact Nat.le_refl _), ev_sm _ _ ms.length (by rw [qi_len]; exact Nat.le_refl _)]
  refine sm_ext fun i hi => ?_
  rw [cf_qi, cf_qi, ci_tab, if_pos hi, Rat.intCast_mul, pow_castI, pow_mulR]
  grind
theorem stretch_ev {ns : List Int} {B st sp : Int} {lo hi : Rat} (h1 : lo * (B : Rat) = (st : Rat)) (h2 : (hi - lo) * (B : Rat) = (sp : Rat)) (z : Rat) :
    ev (qi (tabI ns.length fun i => ci (passN st (ns.length - 1) (rowA ns B)) i * sp ^ i)) z = (B : Rat) ^ (ns.length - 1) * ev (qi ns) (lo + z * (hi - lo)) := by
  have l1 : (passN st (ns.length - 1) (rowA ns B)).length = ns.length := by rw [passN_len, rowA_len]
  have e1 := ev_scaled (passN st (ns.length - 1) (rowA ns B)) sp z
  rw [l1] at e1
  rw [e1, ← ev_rowA]
  by_cases h0 : ns.length = 0
  · have : ns = [] := List.length_eq_zero_iff.mp h0
    subst this
    rfl
  · have e2 := ev_shift st (z * (sp : Rat) + (st : Rat)) (rowA ns B) (by rw [rowA_len]; omega)
    rw [rowA_len, show z * (sp : Rat) + (st : Rat) - (st : Rat) = z * (sp : Rat) by grind] at e2
    rw [e2]
    congr 1
    grind
theorem rowA_bd {ns : List Int} {B : Int} {N F : Nat} (hN : ∀ i, (ci ns i).natAbs ≤ N) (hB : B.natAbs ≤ F) (hF : 0 < F) (i : Nat) : (ci (rowA ns B) i).natAbs ≤ N * F ^ ns.length := by
  rw [ci_rowA]
  split
  · rw [Int.natAbs_mul, Int.natAbs_pow]
    exact Nat.mul_le_mul (hN i) (Nat.le_trans (Nat.pow_le_pow_left hB _) (Nat.pow_le_pow_right hF (by omega)))
  · exact Nat.zero_le _
end Vf

set_option maxRecDepth 100000
set_option maxHeartbeats 8000000
namespace Vf
open PySem PySem.Spec PyProof.Rows L2
/-! ### an interval; a row stretched -/
def RaisesI (CI : Addr) (H : Hp) (v u : V) (E : XK) : Prop := ∀ (d : Addr) (H' : Hp), Same H H' → H d = none → H' d = some (.xd (fl ["low", "high"] [v, u])) → E (.ref CI) (some d) H'
theorem RaisesI.same {CI : Addr} {H H1 : Hp} {v u : V} {E : XK} (s : Same H H1) (h : RaisesI CI H v u E) : RaisesI CI H1 v u E := fun d H' s' n e => h d H' (s.trans s') (s.free n) e
/-- the two ends of an interval, as they are passed -/
def ivD (d e : PyData) : Prop := ∃ t b x c, partsD d = some (t, b) ∧ partsD e = some (x, c) ∧ t * c < x * b
def spNeedI (K : PySem.W.Frag) (CI : Addr) : Sp := fun vs H Q E => ∃ (v u : V) (d e : PyData), vs = [v, u] ∧ Dt K H v d ∧ Dt K H u e ∧ (∀ t b x c, partsD d = some (t, b) → partsD e = some (x, c) → Sz t ∧ Sz b ∧ Sz x ∧ Sz c) ∧
  (ivD d e → ∀ H', Same H H' → Q .non H') ∧ (¬ ivD d e → RaisesI CI H v u E)
def withD (d : PyData) (lo hi : Int) : Bool := match d with
  | .int i => decide (lo ≤ i) && decide (i ≤ hi)
  | _ => false
def spWithin (K : PySem.W.Frag) : Sp := fun vs H Q _ => ∃ (v : V) (d : PyData) (lo hi : Int), vs = [v, .int lo, .int hi] ∧ Dt K H v d ∧ Q (.bl (withD d lo hi)) H
def Sm20 (z : Int) : Prop := z.natAbs ≤ 2 ^ 20
def spStretch (K : PySem.W.Frag) : Sp := fun vs H Q _ => ∃ (l : Addr) (v u : V) (d e : PyData) (t b x c : Int) (ns : List Int) (N : Nat) (lo hi : Rat), vs = [.ref l, v, u] ∧ RI H l ns ∧ Dt K H v d ∧ Dt K H u e ∧ partsD d = some (t, b) ∧ partsD e = some (x, c) ∧ 0 < b ∧ 0 < c ∧ Sm20 t ∧ Sm20 b ∧ Sm20 x ∧ Sm20 c ∧
  lo * (b : Rat) = (t : Rat) ∧ hi * (c : Rat) = (x : Rat) ∧ ns.length ≤ 13 ∧ (∀ i, (ci ns i).natAbs ≤ N) ∧ N < 2 ^ 1300 ∧
  ∀ (tp l' : Addr) (ms : List Int) (fac : Nat) (H' : Hp), Same H H' → H' tp = some (.tup [.ref l', .int (fac : Int)]) → RI H' l' ms → ms.length = ns.length → (∀ i, (ci ms i).natAbs ≤ N * 2 ^ 2132) → 0 < fac → fac ≤ 2 ^ 520 →
    (∀ z : Rat, ev (qi ms) z = (fac : Rat) * ev (qi ns) (lo + z * (hi - lo))) → Q (.ref tp) H'
theorem pss_no {X : Cx} {body : List Stmt} : PSs X body (fun _ _ _ => False) := ⟨fun _ _ _ _ _ _ h => h.elim⟩
section
variable {P : Program} {w : World} {K : PySem.W.Frag} {mg : Str → Option Value} {base : Heap} {CP CR CN CI : Addr}
abbrev sWithin : Stmt := topS 19
theorem scWithin : FnScope ["value", "least", "most"] ["value", "least", "most"] (defScope sWithin) := ⟨rfl, rfl, rfl, by decide +kernel, rfl, by decide +kernel, by decide +kernel⟩
theorem ok_within {f : Addr} {fd : FuncData} (F : Fun K "is_whole_within" "is_whole_within" sWithin f fd) (T : Bk mg) (G_is_whole : Df P w K mg base "is_whole" 1 ["value"] (spWhole K)) : FnOk P w K mg base CX0 2 f fd ["value", "least", "most"] (spWithin K) := by
  refine F.ok scWithin (fun vs H Q E h => ?_) (fun cdv A outer s H vs Q E hr h => ?_)
  · obtain ⟨v, d, lo, hi, rfl, _⟩ := h
    rfl
  · obtain ⟨v, d, lo, hi, rfl, hd, q⟩ := h
    refine ⟨_, (pss_one (ps_ret (pe_and (pe_call G_is_whole.ok (hr.mono (by decide)) rfl G_is_whole.m G_is_whole.kp G_is_whole.b .nil pass0 (pa_cons (pv 0) pa_nil)) (pe_one (pe_chain op_le op_le (pv 1) (pv 0) (pv 2)))))), ?_⟩
    refine ⟨_, rfl, v, d, rfl, hd, ?_⟩
    refine ⟨wholeD d, rfl, ?_⟩
    cases hd with
    | int i =>
      refine iteT ?_
      refine ⟨_, rfl, _, rfl, _, _, rfl, rfl, _, rfl, ?_⟩
      have q' : Q (.bl (decide (lo ≤ i) && decide (i ≤ hi))) H := q
      by_cases h1 : lo ≤ i
      · rw [decide_eq_true h1] at q' ⊢
        refine iteT ?_
        refine ⟨_, rfl, _, _, rfl, rfl, ?_⟩
        exact q'
      · rw [decide_eq_false h1] at q' ⊢
        refine iteF ?_
        exact q'
    | _ =>
      refine iteF ?_
      exact q
abbrev sNeedI : Stmt := topS 20
theorem scNeedI : FnScope ["low", "high"] ["low", "high"] (defScope sNeedI) := ⟨rfl, rfl, rfl, by decide +kernel, rfl, by decide +kernel, by decide +kernel⟩
theorem ok_needi {f : Addr} {fd : FuncData} (F : Fun K "need_interval" "need_interval" sNeedI f fd) (T : Bk mg) (N_BadInterval : Ex P w K mg base "BadInterval" CI ["low", "high"]) (G_is_ratio : Df P w K mg base "is_ratio" 2 ["value"] (spIsRatio K)) (G_lower : Dx P w K mg base "lower" 4 ["one", "other"] (spTwo K CN okLower)) : FnOk P w K mg base (L2.CX P w) 5 f fd ["low", "high"] (spNeedI K CI) := by
  refine F.okX scNeedI (fun vs H Q E h => ?_) (fun cdv A outer s H vs Q E hr h => ?_)
  · obtain ⟨v, u, d, e, rfl, _⟩ := h
    rfl
  · obtain ⟨v, u, d, e, rfl, hd, he, sz, q, er⟩ := h
    refine ⟨_, (pss_one (ps_if (pt_not (PW.pt (pw_and (pt_val (pe_call G_is_ratio.ok (hr.mono (by decide)) rfl G_is_ratio.m G_is_ratio.kp G_is_ratio.b .nil pass0 (pa_cons (pv 0) pa_nil))) (pw_and (pt_val (pe_call G_is_ratio.ok (hr.mono (by decide)) rfl G_is_ratio.m G_is_ratio.kp G_is_ratio.b .nil pass0 (pa_cons (pv 1) pa_nil))) (pw_and1 (pt_val (pe_call G_lower.ok (hr.mono (by decide)) rfl G_lower.m G_lower.kp G_lower.b .nil (E := E) (passes_call (takes_of rfl rfl rfl rfl) (fun _ _ _ _ h => h)) (pa_cons (pv 0) (pa_cons (pv 1) pa_nil)))))))))
    (pss_one (ps_raise rfl (takes_of rfl rfl rfl rfl) (pmk_oex N_BadInterval.ox N_BadInterval.iC N_BadInterval.tI N_BadInterval.ok (hr.mono (by decide)) N_BadInterval.b .nil pass0 (by rfl) N_BadInterval.m (pa_cons (pv 0) (pa_cons (pv 1) pa_nil)))))
    pss_nil)), ?_⟩
    refine ⟨_, rfl, v, d, rfl, hd, fun H1 s1 => ?_⟩
    cases pd : partsD d with
    | none =>
      refine ⟨false, rfl, ?_⟩
      refine iteF ?_
      refine iteT ?_
      refine ⟨_, rfl, _, rfl, (by show 2 ≤ 1000; decide), ?_⟩
      exact raise_end rfl fun dd H' s2 n e2 => (er (fun ⟨_, _, _, _, z, _⟩ => by rw [pd] at z; cases z)).same s1 dd H' s2 n e2
    | some tb =>
      obtain ⟨t, b⟩ := tb
      refine ⟨true, rfl, ?_⟩
      refine iteT ?_
      refine ⟨_, rfl, u, e, rfl, he.mono s1, fun H2 s2 => ?_⟩
      have s12 := s1.trans s2
      cases pe : partsD e with
      | none =>
        refine ⟨false, rfl, ?_⟩
        refine iteF ?_
        refine iteT ?_
        refine ⟨_, rfl, _, rfl, (by show 2 ≤ 1000; decide), ?_⟩
        exact raise_end rfl fun dd H' s3 n e2 => (er (fun ⟨_, _, _, _, _, z, _⟩ => by rw [pe] at z; cases z)).same s12 dd H' s3 n e2
      | some xc =>
        obtain ⟨x, c⟩ := xc
        obtain ⟨z1, z2, z3, z4⟩ := sz t b x c pd pe
        refine ⟨true, rfl, ?_⟩
        refine iteT ?_
        refine ⟨_, rfl, _, rfl, v, u, d, e, rfl, hd.mono s12, he.mono s12, ?_, ?_, ?_⟩
        · intro t' b' x' c' g1 g2
          rw [pd] at g1
          rw [pe] at g2
          cases g1
          cases g2
          refine ⟨z1, z2, z3, z4, fun H3 s3 => ?_⟩
          by_cases lt : t * c < x * b
          · rw [decide_eq_true lt]
            refine ⟨true, rfl, ?_⟩
            refine iteF ?_
            exact q ⟨t, b, x, c, pd, pe, lt⟩ H3 (s12.trans s3)
          · rw [decide_eq_false lt]
            refine ⟨false, rfl, ?_⟩
            refine iteT ?_
            refine ⟨_, rfl, _, rfl, (by show 2 ≤ 1000; decide), ?_⟩
            refine raise_end rfl fun dd H' s4 n e2 => (er ?_).same (s12.trans s3) dd H' s4 n e2
            rintro ⟨t', b', x', c', g1, g2, g3⟩
            rw [pd] at g1
            rw [pe] at g2
            cases g1
            cases g2
            exact lt g3
        · intro z
          rw [pd] at z
          cases z
        · intro _ z
          rw [pe] at z
          cases z
theorem p20 {z : Int} (h : Sm20 z) : z.natAbs < 2 ^ 8700 := Nat.lt_of_le_of_lt h (Nat.pow_lt_pow_right (by decide) (by decide))
theorem lt39 {z k : Nat} (h : z ≤ 2 ^ k) (hk : k < 8700) : z < 2 ^ 8700 := Nat.lt_of_le_of_lt h (Nat.pow_lt_pow_right (by decide) hk)
abbrev sStretch : Stmt := topS 34
theorem scStretch : FnScope ["row", "low", "high", "low_top", "low_bottom", "high_top", "high_bottom", "bottom", "start", "step", "moved", "factor", "_"] ["row", "low", "high"] (defScope sStretch) := ⟨rfl, rfl, rfl, by decide +kernel, rfl, by decide +kernel, by decide +kernel⟩
theorem ok_stretch {f : Addr} {fd : FuncData} (F : Fun K "stretched_row" "stretched_row" sStretch f fd) (T : Bk mg) (hlcm : mg "lcm" = some (.builtin "math.lcm")) (G_parts_of : Dx P w K mg base "parts_of" 3 ["value", "what"] (spParts K CN))
    (G_scaled_row : Df P w K mg base "scaled_row" 1 ["row", "factor"] spScaled) (G_moved_row : Df P w K mg base "moved_row" 1 ["row", "start"] spMovedR) : FnOk P w K mg base (L2.CX P w) 4 f fd ["row", "low", "high"] (spStretch K) := by
  refine F.okX scStretch (fun vs H Q E h => ?_) (fun cdv A outer s H vs Q E hr h => ?_)
  · obtain ⟨l, v, u, d, e, t, b, x, c, ns, N, lo, hi, rfl, _⟩ := h
    rfl
  · obtain ⟨l, v, u, d, e, t, b, x, c, ns, N, lo, hi, rfl, hl, hd, he, pd, pe, b0, c0, zt, zb, zx, zc, elo, ehi, ln, hN, hN2, q⟩ := h
    refine ⟨_, (pss_cons (ps_asg (pe_call G_parts_of.ok (hr.mono (by decide)) rfl G_parts_of.m G_parts_of.kp G_parts_of.b .nil (E := E) (passes_call (takes_of rfl rfl rfl rfl) (fun _ _ _ _ h => h)) (pa_cons (pv 1) (pa_cons pe_str pa_nil))) (pg_tup (by rfl) (pgs_cons (pg_name (i := 3) scStretch.nd rfl (Or.inl rfl)) (pgs_cons (pg_name (i := 4) scStretch.nd rfl (Or.inl rfl)) pgs_nil))))
  (pss_cons (ps_asg (pe_call G_parts_of.ok (hr.mono (by decide)) rfl G_parts_of.m G_parts_of.kp G_parts_of.b .nil (E := E) (passes_call (takes_of rfl rfl rfl rfl) (fun _ _ _ _ h => h)) (pa_cons (pv 2) (pa_cons pe_str pa_nil))) (pg_tup (by rfl) (pgs_cons (pg_name (i := 5) scStretch.nd rfl (Or.inl rfl)) (pgs_cons (pg_name (i := 6) scStretch.nd rfl (Or.inl rfl)) pgs_nil))))
  (pss_cons (ps_set (i := 7) scStretch.nd rfl (Or.inl rfl) (pe_callBfun cr_lcm (by rfl) hlcm (pa_cons (pv 4) (pa_cons (pv 6) pa_nil))))
  (pss_cons (ps_set (i := 8) scStretch.nd rfl (Or.inl rfl) (pe_op op_mulW (pv 3) (pe_op op_fdivW (pv 7) (pv 4))))
  (pss_cons (ps_set (i := 9) scStretch.nd rfl (Or.inl rfl) (pe_op op_sub (pe_op op_mulW (pv 5) (pe_op op_fdivW (pv 7) (pv 6))) (pv 8)))
  (pss_cons (ps_set (i := 10) scStretch.nd rfl (Or.inl rfl) (pe_call G_moved_row.ok (hr.mono (by decide)) rfl G_moved_row.m G_moved_row.kp G_moved_row.b .nil pass0 (pa_cons (pe_revL (pe_call G_scaled_row.ok (hr.mono (by decide)) rfl G_scaled_row.m G_scaled_row.kp G_scaled_row.b .nil pass0 (pa_cons (pe_revL (pv 0)) (pa_cons (pv 7) pa_nil)))) (pa_cons (pv 8) pa_nil))))
  (pss_cons (ps_set (i := 11) scStretch.nd rfl (Or.inl rfl) pe_int)
  (pss_cons (ps_for (passes_of rfl) rfl (pi_range1 (by rfl) T.range (pa_cons (pe_op op_sub (pe_callB call_len_seq (by rfl) T.len (by decide +kernel) (pa_cons (pv 0) pa_nil)) pe_int) pa_nil)) (pg_name (i := 12) scStretch.nd rfl (Or.inl rfl))
    (pss_one (ps_set (i := 11) scStretch.nd rfl (Or.inl rfl) (pe_op op_mulW (pv 11) (pv 7)))))
  (pss_one (ps_ret (pe_tup (pa_cons (pe_call G_scaled_row.ok (hr.mono (by decide)) rfl G_scaled_row.m G_scaled_row.kp G_scaled_row.b .nil pass0 (pa_cons (pv 10) (pa_cons (pv 9) pa_nil))) (pa_cons (pv 11) pa_nil))))))))))))), ?_⟩
    refine ⟨_, rfl, v, _, d, rfl, hd, ?_, fun z => by rw [pd] at z; cases z⟩
    intro t' b' g p H1 s1 ep
    rw [pd] at g
    cases g
    refine ⟨p, _, rfl, SqT.of ep, rfl, _, _, rfl, _, _, rfl, rfl, ?_⟩
    refine ⟨_, rfl, u, _, e, rfl, he.mono s1, ?_, fun z => by rw [pe] at z; cases z⟩
    intro t' b' g p2 H2 s2 ep2
    rw [pe] at g
    cases g
    refine ⟨p2, _, rfl, SqT.of ep2, rfl, _, _, rfl, _, _, rfl, rfl, ?_⟩
    have up : ∀ {z : Int}, Sm20 z → z.natAbs < 2 ^ 8800 := fun h => Nat.lt_of_le_of_lt h (Nat.pow_lt_pow_right (by decide) (by decide))
    refine ⟨_, rfl, _, rfl, _, _, rfl, up zb, up zc, ?_⟩
    have bot0 : 0 < Nat.lcm b.natAbs c.natAbs := Nat.lcm_pos (by omega) (by omega)
    have bdv : b.natAbs ∣ Nat.lcm b.natAbs c.natAbs := Nat.dvd_lcm_left _ _
    have cdv : c.natAbs ∣ Nat.lcm b.natAbs c.natAbs := Nat.dvd_lcm_right _ _
    have bot40 : Nat.lcm b.natAbs c.natAbs ≤ 2 ^ 40 := by
      refine Nat.le_trans (Nat.le_of_dvd (Nat.mul_pos (by omega) (by omega)) (Nat.lcm_dvd_mul _ _)) ?_
      rw [show (2 : Nat) ^ 40 = 2 ^ 20 * 2 ^ 20 from by decide]
      exact Nat.mul_le_mul zb zc
    generalize Nat.lcm b.natAbs c.natAbs = bot at bot0 bdv cdv bot40 ⊢
    obtain ⟨bk, hbk⟩ := bdv
    obtain ⟨ck, hck⟩ := cdv
    have eb : (bot : Int) / b = (bk : Int) := by
      have : (bot : Int) = b * (bk : Int) := by rw [hbk, Int.natCast_mul]; rw [show ((b.natAbs : Nat) : Int) = b by omega]
      rw [this]
      exact Int.mul_ediv_cancel_left _ (by omega)
    have ec : (bot : Int) / c = (ck : Int) := by
      have : (bot : Int) = c * (ck : Int) := by rw [hck, Int.natCast_mul]; rw [show ((c.natAbs : Nat) : Int) = c by omega]
      rw [this]
      exact Int.mul_ediv_cancel_left _ (by omega)
    have bk40 : bk ≤ 2 ^ 40 := Nat.le_trans (by rw [hbk]; exact Nat.le_mul_of_pos_left _ (by omega)) bot40
    have ck40 : ck ≤ 2 ^ 40 := Nat.le_trans (by rw [hck]; exact Nat.le_mul_of_pos_left _ (by omega)) bot40
    have dv : ∀ {z : Int}, 0 < z → Sm20 z → CDivW (bot : Int) z := fun h0 h => ⟨h0, Nat.lt_trans (log_4000 (up h)) (by decide)⟩
    have st60 : (t * (bk : Int)).natAbs ≤ 2 ^ 60 := by
      rw [Int.natAbs_mul, Int.natAbs_natCast, show (2 : Nat) ^ 60 = 2 ^ 20 * 2 ^ 40 from by decide]
      exact Nat.mul_le_mul zt bk40
    have sx60 : (x * (ck : Int)).natAbs ≤ 2 ^ 60 := by
      rw [Int.natAbs_mul, Int.natAbs_natCast, show (2 : Nat) ^ 60 = 2 ^ 20 * 2 ^ 40 from by decide]
      exact Nat.mul_le_mul zx ck40
    refine ⟨_, rfl, _, rfl, _, rfl, _, _, rfl, rfl, dv b0 zb, _, _, rfl, rfl, ?_, ?_⟩
    · rw [eb]
      exact big_mulW (p20 zt) (by rw [Int.natAbs_natCast]; exact lt39 bk40 (by decide))
    rw [eb]
    refine ⟨_, rfl, _, rfl, _, rfl, _, _, rfl, rfl, dv c0 zc, _, _, rfl, rfl, ?_, ?_⟩
    · rw [ec]
      exact big_mulW (p20 zx) (by rw [Int.natAbs_natCast]; exact lt39 ck40 (by decide))
    rw [ec]
    refine ⟨_, rfl, _, _, rfl, rfl, ?_⟩
    have step61 : (x * (ck : Int) - t * (bk : Int)).natAbs ≤ 2 ^ 61 := by
      have := Int.natAbs_sub_le (x * (ck : Int)) (t * (bk : Int))
      omega
    have eS : lo * ((bot : Int) : Rat) = ((t * (bk : Int) : Int) : Rat) := by
      have : ((bot : Int) : Rat) = (b : Rat) * ((bk : Int) : Rat) := by
        rw [← Rat.intCast_mul]
        congr 1
        rw [hbk, Int.natCast_mul, show ((b.natAbs : Nat) : Int) = b by omega]
      rw [this, Rat.intCast_mul, ← elo]
      grind
    have eX : hi * ((bot : Int) : Rat) = ((x * (ck : Int) : Int) : Rat) := by
      have : ((bot : Int) : Rat) = (c : Rat) * ((ck : Int) : Rat) := by
        rw [← Rat.intCast_mul]
        congr 1
        rw [hck, Int.natCast_mul, show ((c.natAbs : Nat) : Int) = c by omega]
      rw [this, Rat.intCast_mul, ← ehi]
      grind
    have eD : (hi - lo) * ((bot : Int) : Rat) = ((x * (ck : Int) - t * (bk : Int) : Int) : Rat) := by
      rw [Rat.intCast_sub, ← eS, ← eX]
      grind
    have hl2 := (hl.same s1).same s2
    have b39 : ∀ i, big39 (ci ns i) := fun i => Nat.lt_of_le_of_lt (hN i) (Nat.lt_trans hN2 (Nat.pow_lt_pow_right (by decide) (by decide)))
    -- the row turned
    refine ⟨_, rfl, l, _, rfl, hl2.sq, fun r1 nr1 => ?_⟩
    have er1 : RI (upd H2 r1 (HO.lst (ns.map V.int).reverse)) r1 ns.reverse := by
      show upd H2 r1 _ r1 = _
      rw [upd_same, List.map_reverse]
    have s3 : Same H2 (upd H2 r1 (HO.lst (ns.map V.int).reverse)) := same_upd nr1
    generalize upd H2 r1 (HO.lst (ns.map V.int).reverse) = H3 at er1 s3 ⊢
    have lr : ns.reverse.length = ns.length := List.length_reverse ..
    have brev : ∀ i, (ci ns.reverse i).natAbs ≤ N := fun i => by
      by_cases h : i < ns.length
      · rw [ci_rev h]; exact hN _
      · rw [ci_ge (by rw [lr]; omega)]; exact Nat.zero_le _
    have pw40 : (2 ^ 40) ^ ns.length ≤ 2 ^ 520 := by
      rw [← Nat.pow_mul]
      exact Nat.pow_le_pow_right (by decide) (by omega)
    refine ⟨_, rfl, r1, _, _, 2 ^ 40, rfl, er1, by omega, fun i => Nat.lt_of_le_of_lt (brev i) (Nat.lt_trans hN2 (Nat.pow_lt_pow_right (by decide) (by decide))), by rw [Int.natAbs_natCast]; exact bot40, by decide, by rw [lr]; exact lt39 pw40 (by decide), fun l2 H4 s4 e4 => ?_⟩
    refine ⟨l2, _, rfl, e4.sq, fun r2 nr2 => ?_⟩
    have er2 : RI (upd H4 r2 (HO.lst ((tabI ns.reverse.length fun i => ci ns.reverse i * (bot : Int) ^ i).map V.int).reverse)) r2 (rowA ns (bot : Int)) := by
      show upd H4 r2 _ r2 = _
      rw [upd_same, ← List.map_reverse, lr]
      rfl
    have s5 : Same H4 (upd H4 r2 (HO.lst ((tabI ns.reverse.length fun i => ci ns.reverse i * (bot : Int) ^ i).map V.int).reverse)) := same_upd nr2
    generalize upd H4 r2 (HO.lst ((tabI ns.reverse.length fun i => ci ns.reverse i * (bot : Int) ^ i).map V.int).reverse) = H5 at er2 s5 ⊢
    have la := rowA_len ns (bot : Int)
    have bA : ∀ i, (ci (rowA ns (bot : Int)) i).natAbs ≤ N * 2 ^ 520 := fun i => Nat.le_trans (rowA_bd hN (by rw [Int.natAbs_natCast]; exact bot40) (by decide) i) (Nat.mul_le_mul_left _ pw40)
    have sz : ∀ k, k ≤ 8700 - 1300 → N * 2 ^ k < 2 ^ 8700 := fun k hk => by
      refine Nat.lt_of_lt_of_le ((Nat.mul_lt_mul_right (Nat.pow_pos (by decide))).mpr hN2) ?_
      rw [← Nat.pow_add]
      exact Nat.pow_le_pow_right (by decide) (by omega)
    have R62 : 2 * (t * (bk : Int)).natAbs ≤ 2 ^ 62 := by omega
    have pR : (2 ^ 62) ^ ns.length ≤ 2 ^ 806 := by
      rw [← Nat.pow_mul]
      exact Nat.pow_le_pow_right (by decide) (by omega)
    have p13 : 2 ^ ns.length ≤ 2 ^ 13 := Nat.pow_le_pow_right (by decide) ln
    have tot : 2 ^ ns.length * (N * 2 ^ 520) * (2 ^ 62) ^ ns.length ≤ N * 2 ^ 1339 := by
      refine Nat.le_trans (Nat.mul_le_mul (Nat.mul_le_mul_right _ p13) pR) ?_
      rw [show N * 2 ^ 1339 = 2 ^ 13 * (N * 2 ^ 520) * 2 ^ 806 from by
        rw [show (2 : Nat) ^ 1339 = 2 ^ 13 * 2 ^ 520 * 2 ^ 806 from by rw [← Nat.pow_add, ← Nat.pow_add]]
        rw [← Nat.mul_assoc N, ← Nat.mul_assoc N, Nat.mul_comm N (2 ^ 13), Nat.mul_assoc (2 ^ 13) N]]
      exact Nat.le_refl _
    refine ⟨_, rfl, r2, _, _, 2 ^ 62, N * 2 ^ 520, rfl, er2, by omega, by decide, R62, Bd.of (by decide) bA, by rw [la]; exact Nat.lt_of_le_of_lt tot (sz 1339 (by decide)), Nat.pow_lt_pow_right (by decide) (by decide), fun l3 H6 s6 e6 => ?_⟩
    rw [la] at e6
    have lp : (passN (t * (bk : Int)) (ns.length - 1) (rowA ns (bot : Int))).length = ns.length := by rw [passN_len, la]
    have bP : ∀ i, (ci (passN (t * (bk : Int)) (ns.length - 1) (rowA ns (bot : Int))) i).natAbs ≤ N * 2 ^ 1339 := fun i => by
      have z := (pass_bd R62 (Bd.of (R := 2 ^ 62) (by decide) bA) (ns.length - 1)).at (by decide) i
      rw [lp] at z
      refine Nat.le_trans z (Nat.le_trans ?_ tot)
      exact Nat.mul_le_mul_right _ (Nat.mul_le_mul_right _ (Nat.pow_le_pow_right (by decide) (by omega)))
    have hl6 : RI H6 l ns := (((hl2.same s3).same s4).same s5).same s6
    have s06 : Same H H6 := s1.trans (s2.trans (s3.trans (s4.trans (s5.trans s6))))
    -- the factor
    have lm : (ns.map V.int).length = ns.length := List.length_map ..
    refine ⟨_, rfl, l, _, rfl, .inl hl6.sq, _, _, rfl, rfl, _, rfl, by rw [lm]; omega, by rw [lm]; omega, for_range (lo := 0) (n := ((((ns.map V.int).length : Nat) : Int) - 1).toNat) (fun k σ H7 => ∃ v12, σ = [some (.ref l), some v, some u, some (.int t), some (.int b), some (.int x), some (.int c), some (.int (bot : Int)), some (.int (t * (bk : Int))), some (.int (x * (ck : Int) - t * (bk : Int))), some (.ref l3), some (.int ((bot ^ k : Nat) : Int)), v12] ∧ H7 = H6) ⟨none, rfl, rfl⟩ ?_ ?_⟩
    · rintro k σ H7 hk ⟨v12, rfl, rfl⟩
      rw [lm] at hk
      have bk39 : bot ^ k < 2 ^ 8700 := lt39 (Nat.le_trans (Nat.pow_le_pow_left bot40 k) (Nat.le_trans (Nat.pow_le_pow_right (by decide) (show k ≤ ns.length by omega)) pw40)) (by decide)
      refine ⟨_, rfl, _, rfl, _, _, rfl, rfl, big_mulW (by rw [Int.natAbs_natCast]; exact bk39) (by rw [Int.natAbs_natCast]; exact lt39 bot40 (by decide)), ?_⟩
      exact ⟨_, by rw [Nat.pow_succ, Int.natCast_mul]; rfl, rfl⟩
    · rintro σ H7 ⟨v12, rfl, rfl⟩
      rw [lm, show (((ns.length : Nat) : Int) - 1).toNat = ns.length - 1 by omega]
      have p61 : (2 ^ 61) ^ ns.length ≤ 2 ^ 793 := by
        rw [← Nat.pow_mul]
        exact Nat.pow_le_pow_right (by decide) (by omega)
      refine ⟨_, rfl, _, rfl, l3, _, _, 2 ^ 61, rfl, e6, by omega, fun i => Nat.lt_of_le_of_lt (bP i) (sz 1339 (by decide)), step61, by decide, by rw [lp]; exact lt39 p61 (by decide), fun l4 H8 s8 e8 => ?_⟩
      rw [lp] at e8
      refine ⟨_, rfl, (by show 2 ≤ sizeLine; decide), fun tp ntp => ?_⟩
      have s9 : Same H8 (upd H8 tp (HO.tup [V.ref l4, V.int ((bot ^ (ns.length - 1) : Nat) : Int)])) := same_upd ntp
      refine q tp l4 _ (bot ^ (ns.length - 1)) _ (s06.trans (s8.trans s9)) upd_same (e8.same s9) (tabI_len _ _) (fun i => ?_) (Nat.pow_pos bot0) ?_ (fun z => ?_)
      · rw [ci_tab]
        split
        · rw [Int.natAbs_mul, Int.natAbs_pow]
          have a1 := bP i
          have a2 : (x * (ck : Int) - t * (bk : Int)).natAbs ^ i ≤ 2 ^ 793 := Nat.le_trans (Nat.pow_le_pow_left step61 i) (Nat.le_trans (Nat.pow_le_pow_right (by decide) (by omega)) p61)
          refine Nat.le_trans (Nat.mul_le_mul a1 a2) ?_
          rw [Nat.mul_assoc, ← Nat.pow_add]
          exact Nat.mul_le_mul_left _ (Nat.pow_le_pow_right (by decide) (by decide))
        · exact Nat.zero_le _
      · refine Nat.le_trans (Nat.pow_le_pow_left bot40 _) (Nat.le_trans (Nat.pow_le_pow_right (by decide) (by omega)) pw40)
      · rw [stretch_ev eS eD]
        congr 1
        rw [Rat.natCast_pow]
        rfl
end

end Vf

set_option maxRecDepth 100000
namespace Vf
theorem num_denQ (q : Rat) : q * ((q.den : Nat) : Rat) = ((q.num : Int) : Rat) := by
  obtain ⟨n, e, h⟩ := Fr.self q
  have h0 : (q.den : Rat) ≠ 0 := by
    have := q.den_nz
    exact_mod_cast this
  have z : (q.num : Rat) / (q.den : Rat) = q := by
    have := Rat.num_divInt_den q
    rw [Rat.divInt_eq_div] at this
    exact_mod_cast this
  have := Rat.div_mul_cancel (a := (q.num : Rat)) h0
  rw [z] at this
  exact this
/-- a row that is a power -/
structure PWr (f : Rat → Rat) (M N k : Nat) (P : List Rat) : Prop where
  len : P.length ≤ k + 1
  fr : ∀ i, Fr (M ^ k) (N ^ k) (cf P i)
  vl : ∀ x, ev P x = f x ^ k
theorem stripQ_le (l : List Rat) : (stripQ l).length ≤ l.length := stp_len (stripQ_stp l) (cf_stripQ l)
theorem pmul_len (a b : List Rat) : (pmul a b).length = a.length + b.length - 1 := by unfold pmul; rw [tab_len]
theorem pmul_fr {a b : List Rat} {M N M' N' : Nat} (ha : ∀ i, Fr M N (cf a i)) (hb : ∀ i, Fr M' N' (cf b i)) (hl : a.length + b.length ≤ 32) (i : Nat) : Fr (M * M') (32 * (N * N')) (cf (pmul a b) i) := by
  by_cases h : i + 1 ≤ 32
  · rw [cf_pmul]
    unfold pc
    exact (sm_fr fun j _ => (ha j).mul (hb _)).le (Nat.mul_le_mul_right _ h)
  · rw [cf_ge (by rw [pmul_len]; omega)]
    exact Fr.zero _ _
theorem PWr.zero (f : Rat → Rat) (M N : Nat) : PWr f M N 0 [1] where
  len := by decide
  fr := fun i => by
    rw [Nat.pow_zero, Nat.pow_zero]
    cases i with
    | zero => exact ⟨1, by show (1 : Rat) * ((1 : Nat) : Rat) = ((1 : Int) : Rat); decide +kernel, by decide⟩
    | succ i => rw [cf_ge (by show 1 ≤ i + 1; omega)]; exact Fr.zero _ _
  vl := fun x => by rw [Rat.pow_zero]; show 1 + x * 0 = (1 : Rat); grind
theorem PWr.next {f : Rat → Rat} {M N0 N k : Nat} {P u : List Rat} (h : PWr f M N k P) (hu : u.length ≤ 2) (hf : ∀ i, Fr M N0 (cf u i)) (hN : N = 32 * N0) (he : ∀ x, ev u x = f x) (hk : k ≤ 20) : PWr f M N (k + 1) (stripQ (pmul P u)) where
  len := by
    have := stripQ_le (pmul P u)
    rw [pmul_len] at this
    have := h.len
    omega
  fr := fun i => by
    rw [cf_stripQ, Nat.pow_succ, Nat.pow_succ]
    have := h.len
    have z := pmul_fr h.fr hf (by omega) i
    rw [hN] at *
    rw [show 32 * ((32 * N0) ^ k * N0) = (32 * N0) ^ k * (32 * N0) from by rw [Nat.mul_left_comm]] at z
    exact z
  vl := fun x => by rw [ev_stripQ, ev_pmul, h.vl, he, Rat.pow_succ]
theorem ev_two (a b x : Rat) : ev (stripQ [a, b]) x = a + x * b := by
  rw [ev_stripQ]
  show a + x * (b + x * 0) = _
  grind
theorem cf_two (a b : Rat) (i : Nat) : cf (stripQ [a, b]) i = if i = 0 then a else if i = 1 then b else 0 := by
  rw [cf_stripQ]
  match i with
  | 0 => rfl
  | 1 => rfl
  | i + 2 => rfl
/-- numbers over the bottoms of the ends -/
theorem fr_div {a b : Rat} {T : Nat} (ha : a.num.natAbs ≤ 2 ^ T) (had : a.den ≤ 2 ^ T) (hw : b ≠ 0) (hbd : b.den ≤ 2 ^ (2 * T)) (D : Nat) (hD : a.den ∣ D) (hD2 : D ≤ 2 ^ (2 * T)) (hD0 : 0 < D) : Fr (D * b.num.natAbs) (2 ^ (5 * T)) (a / b) := by
  obtain ⟨g, hg⟩ := hD
  have bn0 : b.num ≠ 0 := fun z => hw (Rat.num_eq_zero.mp z)
  have hb : b * (b.den : Rat) = (b.num : Rat) := by
    exact num_denQ b
  have haN : a * (a.den : Rat) = (a.num : Rat) := num_denQ a
  have bdv : a / b * (b.num : Rat) = a * (b.den : Rat) := by rw [← hb]; grind
  have gl : g ≤ 2 ^ (2 * T) := Nat.le_trans (by rw [hg]; exact Nat.le_mul_of_pos_left _ a.den_pos) hD2
  have key : (a.num.natAbs * g * b.den) ≤ 2 ^ (5 * T) := by
    rw [show 5 * T = T + 2 * T + 2 * T by omega, Nat.pow_add, Nat.pow_add]
    exact Nat.mul_le_mul (Nat.mul_le_mul ha gl) hbd
  by_cases s : 0 ≤ b.num
  · refine ⟨a.num * (g : Int) * (b.den : Int), ?_, by rw [Int.natAbs_mul, Int.natAbs_mul, Int.natAbs_natCast, Int.natAbs_natCast]; exact key⟩
    have e1 : ((D * b.num.natAbs : Nat) : Rat) = (a.den : Rat) * (g : Rat) * (b.num : Rat) := by
      rw [Rat.natCast_mul, hg, Rat.natCast_mul]
      congr 1
      show (((b.num.natAbs : Nat) : Int) : Rat) = _
      rw [show ((b.num.natAbs : Nat) : Int) = b.num by omega]
    rw [e1, Rat.intCast_mul, Rat.intCast_mul, ← haN]
    show a / b * ((a.den : Rat) * (g : Rat) * (b.num : Rat)) = a * (a.den : Rat) * (g : Rat) * (b.den : Rat)
    grind
  · refine ⟨-(a.num * (g : Int) * (b.den : Int)), ?_, by rw [Int.natAbs_neg, Int.natAbs_mul, Int.natAbs_mul, Int.natAbs_natCast, Int.natAbs_natCast]; exact key⟩
    have e1 : ((D * b.num.natAbs : Nat) : Rat) = -((a.den : Rat) * (g : Rat) * (b.num : Rat)) := by
      rw [Rat.natCast_mul, hg, Rat.natCast_mul]
      have : ((b.num.natAbs : Nat) : Rat) = -(b.num : Rat) := by
        show (((b.num.natAbs : Nat) : Int) : Rat) = _
        rw [show ((b.num.natAbs : Nat) : Int) = -b.num by omega, Rat.intCast_neg]
      rw [this]
      grind
    rw [e1, Rat.intCast_neg, Rat.intCast_mul, Rat.intCast_mul, ← haN]
    show a / b * -((a.den : Rat) * (g : Rat) * (b.num : Rat)) = -(a * (a.den : Rat) * (g : Rat) * (b.den : Rat))
    grind
end Vf

set_option maxRecDepth 100000
namespace Vf
/-! ### a polynomial has its corners -/
def bw : Nat → (Nat → Rat) → Rat
  | 0, w => w 0
  | m + 1, w => bw m w + bw m (nx w)
theorem dl_bw (w : Nat → Rat) : ∀ k m, dl (fun j => bw j w) k m = bw m (fun i => w (i + k))
  | 0, m => rfl
  | k + 1, m => by
    show dl (fun j => bw j w) k (m + 1) - dl (fun j => bw j w) k m = _
    rw [dl_bw w k (m + 1), dl_bw w k m]
    show bw m (fun i => w (i + k)) + bw m (nx fun i => w (i + k)) - bw m (fun i => w (i + k)) = _
    have : (nx fun i => w (i + k)) = fun i => w (i + (k + 1)) := by
      funext i
      show w (i + 1 + k) = w (i + (k + 1))
      rw [show i + 1 + k = i + (k + 1) by omega]
    rw [this]
    grind
/-- a row at a line -/
def lin (lo d : Rat) : List Rat → List Rat
  | [] => []
  | a :: r => padd [a] (padd (pscale (lin lo d r) lo) (0 :: pscale (lin lo d r) d))
theorem ev_lin (lo d z : Rat) : ∀ l, ev (lin lo d l) z = ev l (lo + z * d)
  | [] => rfl
  | a :: r => by
    show ev (padd [a] (padd (pscale (lin lo d r) lo) (0 :: pscale (lin lo d r) d))) z = a + (lo + z * d) * ev r (lo + z * d)
    rw [ev_padd, ev_padd, ev_pscale]
    show a + z * 0 + (ev (lin lo d r) z * lo + (0 + z * ev (pscale (lin lo d r) d) z)) = _
    rw [ev_pscale, ev_lin lo d z r]
    grind
theorem pscale_len (a : List Rat) (c : Rat) : (pscale a c).length = a.length := by unfold pscale; rw [List.length_map]
theorem padd_len (a b : List Rat) : (padd a b).length = max a.length b.length := by unfold padd; rw [tab_len]
theorem lin_len (lo d : Rat) : ∀ l, (lin lo d l).length ≤ l.length
  | [] => Nat.le_refl _
  | a :: r => by
    show (padd [a] (padd (pscale (lin lo d r) lo) (0 :: pscale (lin lo d r) d))).length ≤ r.length + 1
    have := lin_len lo d r
    rw [padd_len, padd_len, pscale_len, List.length_cons, List.length_cons, List.length_nil, pscale_len]
    omega
theorem row_of {A : List Rat} {n : Nat} (h : A.length ≤ n + 1) (lo hi : Rat) : ∃ row : List Rat, row.length = n + 1 ∧ ∀ z, ev A (lo + z * (hi - lo)) = bn n (cf row) z (1 - z) := by
  let w : Nat → Rat := fun k => cf (lin lo (hi - lo) A) k / (ch n k : Rat)
  refine ⟨tab (n + 1) fun j => bw j w, tab_len _ _, fun z => ?_⟩
  rw [bn_ext (c := fun j => bw j w) fun k hk => by rw [cf_tab, if_pos (by omega)], bn_powers, ← ev_lin]
  have hl := lin_len lo (hi - lo) A
  rw [ev_sm z _ (n + 1) (by omega)]
  refine sm_ext fun k hk => ?_
  rw [dl_bw]
  show _ = w (0 + k) * _ * _
  rw [Nat.zero_add]
  have cp := ch_pos (show k ≤ n by omega)
  have c0 : ((ch n k : Nat) : Rat) ≠ 0 := fun z => by
    have : ch n k = 0 := by exact_mod_cast z
    omega
  show _ = cf (lin lo (hi - lo) A) k / (ch n k : Rat) * (ch n k : Rat) * _
  grind
theorem bn_lin (q z : Rat) : ∀ (n : Nat) (c : Rat), bn n (fun k => ((k : Rat) + c) * q) z (1 - z) = ((n : Rat) * z + c) * q
  | 0, c => by
    show (((0 : Nat) : Rat) + c) * q = (((0 : Nat) : Rat) * z + c) * q
    have : ((0 : Nat) : Rat) = 0 := rfl
    rw [this]
    grind
  | n + 1, c => by
    show (1 - z) * bn n _ z (1 - z) + z * bn n (fun k => ((((k + 1 : Nat)) : Rat) + c) * q) z (1 - z) = _
    have : (fun k : Nat => (((k + 1 : Nat) : Rat) + c) * q) = fun k : Nat => ((k : Rat) + (1 + c)) * q := by
      funext k
      rw [Rat.natCast_add]
      have : ((1 : Nat) : Rat) = 1 := rfl
      grind
    rw [this, bn_lin q z n c, bn_lin q z n (1 + c), Rat.natCast_add]
    have : ((1 : Nat) : Rat) = 1 := rfl
    grind
end Vf

set_option maxRecDepth 100000
set_option maxHeartbeats 8000000
namespace Vf
open PySem PySem.Spec PyProof.Rows L2
/-! ### corners and halved -/
/-- the degree that is wanted -/
def dgD (k : Nat) : PyData → Option Nat
  | .none => some k
  | .int i => if (k : Int) ≤ i ∧ i ≤ 60 then some i.toNat else none
  | _ => none
def spCorners (K : PySem.W.Frag) (CP CN CI : Addr) : Sp := fun vs H Q E => ∃ (a : Addr) (v u w : V) (d e g : PyData) (A : List Rat), vs = [.ref a, v, u, w] ∧ PolyQ K CP H a A ∧ A.length ≤ 13 ∧ Dt K H v d ∧ Dt K H u e ∧ Dt K H w g ∧
  (∀ t b x c, partsD d = some (t, b) → partsD e = some (x, c) → 0 < b ∧ 0 < c ∧ Sm20 t ∧ Sm20 b ∧ Sm20 x ∧ Sm20 c) ∧ (¬ ivD d e → RaisesI CI H v u E) ∧
  (ivD d e → (dgD (A.length - 1) g = none → RaisesN CN H (.str "degree") w E) ∧
    ∀ n, dgD (A.length - 1) g = some n → ∃ (row : List Rat) (M N : Nat) (lo hi : Rat), (∀ t b x c, partsD d = some (t, b) → partsD e = some (x, c) → lo * (b : Rat) = (t : Rat) ∧ hi * (c : Rat) = (x : Rat)) ∧
      (∀ i, Fr M N (cf A i)) ∧ 0 < M ∧ M < 2 ^ 1300 ∧ N < 2 ^ 1300 ∧ row.length = n + 1 ∧ (∀ z, ev A (lo + z * (hi - lo)) = bn n (cf row) z (1 - z)) ∧
      ∀ (r : Addr) (L Nr : Nat) (H' : Hp), Same H H' → RT H' r row → 0 < L → L ≤ M * 2 ^ (520 + n * (n + 1)) → Nr ≤ N * 2 ^ (2132 + n + n * (n + 1)) → (∀ i, Fr L Nr (cf row i)) → Q (.ref r) H')
theorem sz20 {z : Int} (h : Sm20 z) : Sz z := Nat.lt_of_le_of_lt h (Nat.pow_lt_pow_right (by decide) (by decide))
theorem corners_math {n : Nat} {ms : List Int} {S B : Nat} {row A : List Rat} {lo hi : Rat} (hl : ms.length ≤ n + 1) (hd : ∀ k, k ≤ n → ch n k ∣ S)
    (hm : ∀ z : Rat, ev (qi ms) z = (B : Rat) * ev A (lo + z * (hi - lo))) (hr : ∀ z, ev A (lo + z * (hi - lo)) = bn n (cf row) z (1 - z)) {j : Nat} (hj : j ≤ n) :
    ((acc n (cg ms n S) j : Int) : Rat) = (B : Rat) * (S : Rat) * cf row j := by
  refine acc_all (fun k hk => ?_) hj
  have e1 : ∀ i, cf (qi ms) i = cf (tab (n + 1) fun k => (B : Rat) * (dl (cf row) k 0 * (ch n k : Rat))) i := by
    refine ev_inj fun z _ => ?_
    rw [hm, hr, bn_powers, ← sm_mull, ev_sm z _ (n + 1) (by rw [tab_len]; exact Nat.le_refl _)]
    refine sm_ext fun i hi => ?_
    rw [cf_tab, if_pos hi]
    grind
  have e2 := e1 k
  rw [cf_qi, cf_tab, if_pos (by omega)] at e2
  unfold cg
  rw [Rat.intCast_mul, e2]
  obtain ⟨g, hg⟩ := hd k hk
  have cp := ch_pos hk
  have e3 : ((S : Int) / ((ch n k : Nat) : Int)) = (g : Int) := by
    rw [hg, Int.natCast_mul]
    exact Int.mul_ediv_cancel_left _ (by omega)
  rw [e3]
  have e4 : (S : Rat) = (ch n k : Rat) * (g : Rat) := by rw [hg, Rat.natCast_mul]
  rw [e4, show (((g : Nat) : Int) : Rat) = (g : Rat) from rfl]
  grind
section
variable {P : Program} {w : World} {K : PySem.W.Frag} {mg : Str → Option Value} {base : Heap} {CP CR CN CI : Addr}
theorem Dt.isN {H : Hp} {v : V} {g : PyData} (h : Dt K H v g) (n : g ≠ .none) : v ≠ V.non := by
  cases h with
  | non => exact absurd rfl n
  | _ => intro z; cases z
abbrev sCorners : Stmt := topS 40
theorem scCorners : FnScope ["poly", "low", "high", "degree", "wanted", "row", "bottom", "stretched", "factor", "found", "scale"] ["poly", "low", "high", "degree"] (defScope sCorners) := ⟨rfl, rfl, rfl, by decide +kernel, rfl, by decide +kernel, by decide +kernel⟩
theorem ok_corners {f : Addr} {fd : FuncData} (F : FunD K "corners" "corners" (defArgs sCorners) (defBody sCorners) (defScope sCorners) [V.non] [] f fd) (T : Bk mg) (hmax : mg "max" = none) {u60 : Tok} (m_MOST_DEGREE : mg "MOST_DEGREE" = some (.int 60 u60)) (PC : PoC K mg CP) (M_degree : Me P w K mg base CP "degree" 1 ["self"] (spPolyD K CP)) (N_BadNumber : Ex P w K mg base "BadNumber" CN ["what", "number"])
    (G_need_interval : Dx P w K mg base "need_interval" 5 ["low", "high"] (spNeedI K CI)) (G_is_whole_within : Df P w K mg base "is_whole_within" 2 ["value", "least", "most"] (spWithin K)) (G_over_one_bottom : Df P w K mg base "over_one_bottom" 1 ["numbers"] (spOver2 K)) (G_stretched_row : Dx P w K mg base "stretched_row" 4 ["row", "low", "high"] (spStretch K))
    (G_corner_row : Df P w K mg base "corner_row" 1 ["row", "degree"] spCorner) (G_ratios_over : Df P w K mg base "ratios_over" 2 ["row", "bottom"] spRatios) : FnOk P w K mg base (L2.CX P w) 6 f fd ["poly", "low", "high", "degree"] (spCorners K CP CN CI) := by
  refine FunD.ok (CX := L2.CX P w) F scCorners (fun vs H Q E h => ?_) (fun cdv A' outer s H vs Q E hr h => ?_)
  · obtain ⟨a, v, u, w, d, e, g, A, rfl, _⟩ := h
    rfl
  · obtain ⟨a, v, u, w, d, e, g, A, rfl, hP, lA, hd, he, hg, sz, eI, q⟩ := h
    refine ⟨_, (pss_cons (ps_expr (pe_call G_need_interval.ok (hr.mono (by decide)) rfl G_need_interval.m G_need_interval.kp G_need_interval.b .nil (E := E) (passes_call (takes_of rfl rfl rfl rfl) (fun _ _ _ _ h => h)) (pa_cons (pv 1) (pa_cons (pv 2) pa_nil))))
  (C8.pss_cut (ps_if (pt_cmpR op_isN (pv 3) pe_non (nomark _))
    (pss_one (ps_set (i := 4) scCorners.nd rfl (Or.inl rfl) (pe_callB (call_max2 rfl) (by rfl) hmax (by decide +kernel) (pa_cons pe_int (pa_cons (pe_meth0 (pv 0) PC.cl M_degree.m M_degree.ok (hr.mono (by decide)) M_degree.b .nil pass0) pa_nil)))))
    (pss_one (ps_if (pt_val (pe_call G_is_whole_within.ok (hr.mono (by decide)) rfl G_is_whole_within.m G_is_whole_within.kp G_is_whole_within.b .nil pass0 (pa_cons (pv 3) (pa_cons (pe_callB (call_max2 rfl) (by rfl) hmax (by decide +kernel) (pa_cons pe_int (pa_cons (pe_meth0 (pv 0) PC.cl M_degree.m M_degree.ok (hr.mono (by decide)) M_degree.b .nil pass0) pa_nil))) (pa_cons (pe_glob (v := V.int 60) rfl m_MOST_DEGREE ⟨_, rfl⟩) pa_nil)))))
      (pss_one (ps_set (i := 4) scCorners.nd rfl (Or.inl rfl) (pv 3)))
      (pss_one (ps_raise rfl (takes_of rfl rfl rfl rfl) (pmk_oex N_BadNumber.ox N_BadNumber.iC N_BadNumber.tI N_BadNumber.ok (hr.mono (by decide)) N_BadNumber.b .nil pass0 (by rfl) N_BadNumber.m (pa_cons pe_str (pa_cons (pv 3) pa_nil))))))))
  (pss_cons (ps_asg (pe_call G_over_one_bottom.ok (hr.mono (by decide)) rfl G_over_one_bottom.m G_over_one_bottom.kp G_over_one_bottom.b .nil pass0 (pa_cons (pe_fld (pv 0) rfl) pa_nil)) (pg_tup (by rfl) (pgs_cons (pg_name (i := 5) scCorners.nd rfl (Or.inl rfl)) (pgs_cons (pg_name (i := 6) scCorners.nd rfl (Or.inl rfl)) pgs_nil))))
  (pss_cons (ps_asg (pe_call G_stretched_row.ok (hr.mono (by decide)) rfl G_stretched_row.m G_stretched_row.kp G_stretched_row.b .nil (E := E) (passes_call (takes_of rfl rfl rfl rfl) (fun _ _ _ _ h => h)) (pa_cons (pv 5) (pa_cons (pv 1) (pa_cons (pv 2) pa_nil)))) (pg_tup (by rfl) (pgs_cons (pg_name (i := 7) scCorners.nd rfl (Or.inl rfl)) (pgs_cons (pg_name (i := 8) scCorners.nd rfl (Or.inl rfl)) pgs_nil))))
  (pss_cons (ps_asg (pe_call G_corner_row.ok (hr.mono (by decide)) rfl G_corner_row.m G_corner_row.kp G_corner_row.b .nil pass0 (pa_cons (pv 7) (pa_cons (pv 4) pa_nil))) (pg_tup (by rfl) (pgs_cons (pg_name (i := 9) scCorners.nd rfl (Or.inl rfl)) (pgs_cons (pg_name (i := 10) scCorners.nd rfl (Or.inl rfl)) pgs_nil))))
  (pss_one (ps_ret (pe_call G_ratios_over.ok (hr.mono (by decide)) rfl G_ratios_over.m G_ratios_over.kp G_ratios_over.b .nil pass0 (pa_cons (pv 9) (pa_cons (pe_op op_mulW (pe_op op_mulW (pv 6) (pv 8)) (pv 10)) pa_nil)))))))))), ?_⟩
    refine ⟨_, rfl, _, rfl, v, u, d, e, rfl, hd, he, fun t b x c h1 h2 => (by obtain ⟨_, _, z1, z2, z3, z4⟩ := sz t b x c h1 h2; exact ⟨sz20 z1, sz20 z2, sz20 z3, sz20 z4⟩), ?_, eI⟩
    intro iv H1 s1
    obtain ⟨eN, q⟩ := q iv
    obtain ⟨t, b, x, c, pd, pe, lt⟩ := id iv
    obtain ⟨b0, c0, zt, zb, zx, zc⟩ := sz t b x c pd pe
    have hP1 := PolyAt.same hP s1
    have hg1 := hg.mono s1
    obtain ⟨da, ta, za, ha1, ha2, ha3⟩ := id hP1
    have hn := ha3.lenQ
    have mx : (if ((A.map pq).length : Int) - 1 > 0 then ((A.map pq).length : Int) - 1 else 0) = ((A.length - 1 : Nat) : Int) := by
      rw [List.length_map]
      split <;> omega
    refine ⟨fun σ H2 => ∃ n : Nat, dgD (A.length - 1) g = some n ∧ Same H1 H2 ∧ σ = [some (.ref a), some v, some u, some w, some (.int (n : Int)), none, none, none, none, none, none], ?_, ?_⟩
    · refine ⟨_, rfl, rfl, _, rfl, ?_⟩
      by_cases gn : g = .none
      · subst gn
        cases hg
        rw [decide_eq_true rfl]
        refine iteT ?_
        refine ⟨_, rfl, a, da, _, rfl, ha1, (by kernel_rfl), _, A.map pq, rfl, hP1, ?_⟩
        refine ⟨_, _, rfl, ?_⟩
        rw [mx]
        exact ⟨A.length - 1, rfl, Same.refl _, rfl⟩
      · rw [decide_eq_false (hg.isN gn)]
        refine iteF ?_
        refine ⟨_, rfl, _, rfl, a, da, _, rfl, ha1, (by kernel_rfl), _, A.map pq, rfl, hP1, ?_⟩
        refine ⟨_, _, rfl, ?_⟩
        rw [mx]
        refine ⟨w, g, _, _, rfl, hg1, ?_⟩
        refine ⟨withD g ((A.length - 1 : Nat) : Int) 60, rfl, ?_⟩
        cases wi : withD g ((A.length - 1 : Nat) : Int) 60 with
        | true =>
          obtain ⟨i, rfl, h1, h2⟩ : ∃ i, g = .int i ∧ ((A.length - 1 : Nat) : Int) ≤ i ∧ i ≤ 60 := by
            cases g with
            | int i =>
              have : (decide (((A.length - 1 : Nat) : Int) ≤ i) && decide (i ≤ 60)) = true := wi
              rw [Bool.and_eq_true, decide_eq_true_iff, decide_eq_true_iff] at this
              exact ⟨i, rfl, this⟩
            | _ => cases wi
          cases hg
          refine iteT ?_
          refine ⟨_, rfl, i.toNat, if_pos ⟨h1, h2⟩, Same.refl _, ?_⟩
          rw [Int.toNat_of_nonneg (by omega)]
          rfl
        | false =>
          have dn : dgD (A.length - 1) g = none := by
            cases g with
            | none => exact absurd rfl gn
            | int i =>
              have : (decide (((A.length - 1 : Nat) : Int) ≤ i) && decide (i ≤ 60)) = false := wi
              refine if_neg fun z => ?_
              rw [decide_eq_true z.1, decide_eq_true z.2] at this
              cases this
            | _ => rfl
          refine iteF ?_
          refine ⟨_, rfl, (by show 2 ≤ 1000; decide), ?_⟩
          exact raise_end rfl fun dd H' s2 n e2 => (eN dn).same s1 dd H' s2 n e2
    rintro σ H2 ⟨n, dn, s2, rfl⟩
    obtain ⟨row, M, N, lo, hi, elh, hF, M0, hM, hN, lrow, hev, q⟩ := q n dn
    obtain ⟨elo, ehi⟩ := elh t b x c pd pe
    obtain ⟨lA2, n60⟩ : A.length ≤ n + 1 ∧ n ≤ 60 := by
      unfold dgD at dn
      split at dn
      · cases dn
        omega
      · split at dn
        · cases dn
          omega
        · cases dn
      · cases dn
    -- over one bottom
    have s12 := s1.trans s2
    have hP2 := PolyAt.same hP s12
    obtain ⟨da2, ta2, za2, hb1, hb2, hb3⟩ := id hP2
    refine ⟨_, rfl, a, CP, da2, _, .ref ta2, rfl, hb1, PC.cl, PC.nf, (by kernel_rfl), ?_⟩
    have p39 : ∀ {z : Nat}, z < 2 ^ 1300 → z < 2 ^ 8700 := fun h => Nat.lt_trans h (Nat.pow_lt_pow_right (by decide) (by decide))
    refine ⟨ta2, A, M, N, rfl, ⟨za2, .inr (SqT.of hb2), hb3⟩, by omega, hF, M0, p39 hM, p39 hN, fun t1 l1 B ns H3 s3 et1 el1 B0 BM lns ens bns => ?_⟩
    refine ⟨t1, _, rfl, SqT.of et1, rfl, _, _, rfl, _, _, rfl, rfl, ?_⟩
    have s13 := s12.trans s3
    -- stretched
    refine ⟨_, rfl, _, rfl, _, rfl, l1, v, u, d, e, t, b, x, c, ns, N, lo, hi, rfl, el1, hd.mono s13, he.mono s13, pd, pe, b0, c0, zt, zb, zx, zc, elo, ehi, by omega, bns, hN, fun t2 l2 ms fac H4 s4 et2 el2 lms bms fac0 fac520 ems => ?_⟩
    refine ⟨t2, _, rfl, SqT.of et2, rfl, _, _, rfl, _, _, rfl, rfl, ?_⟩
    have nb : N * 2 ^ 2132 < 2 ^ 8700 := by
      refine Nat.lt_of_lt_of_le ((Nat.mul_lt_mul_right (Nat.pow_pos (by decide))).mpr hN) ?_
      rw [← Nat.pow_add]
      exact Nat.pow_le_pow_right (by decide) (by decide)
    -- the corners
    refine ⟨_, rfl, _, rfl, l2, ms, n, _, rfl, el2, by omega, by omega, bms, nb, fun t3 l3 S H5 s5 et3 S0 Sb Sd el3 => ?_⟩
    refine ⟨t3, _, rfl, SqT.of et3, rfl, _, _, rfl, _, _, rfl, rfl, ?_⟩
    have Sp : S ≤ 2 ^ (n * (n + 1)) := by rw [Nat.pow_mul]; exact Sb
    have nn : n * (n + 1) ≤ 3660 := Nat.le_trans (Nat.mul_le_mul n60 (show n + 1 ≤ 61 by omega)) (by decide)
    have S36 : S ≤ 2 ^ 3660 := Nat.le_trans Sp (Nat.pow_le_pow_right (by decide) nn)
    have eAB : ∀ z : Rat, ev (qi ns) z = (B : Rat) * ev A z := fun z => by
      rw [ev_sm z _ (max ns.length A.length) (by rw [qi_len]; omega), ev_sm z A (max ns.length A.length) (by omega), ← sm_mull]
      refine sm_ext fun i _ => ?_
      rw [cf_qi, ← ens i]
      grind
    have math : ∀ j, j ≤ n → ((acc n (cg ms n S) j : Int) : Rat) = ((fac * B : Nat) : Rat) * (S : Rat) * cf row j := fun j hj => corners_math (B := fac * B) (by omega) Sd (fun z => by rw [ems, eAB, Rat.natCast_mul]; grind) hev hj
    have bot0 : (B : Int) * (fac : Int) * (S : Int) ≠ 0 := by
      rw [← Int.natCast_mul, ← Int.natCast_mul]
      have := Nat.mul_pos (Nat.mul_pos B0 fac0) S0
      omega
    have bf : B * fac ≤ 2 ^ 1820 := by
      rw [show (2 : Nat) ^ 1820 = 2 ^ 1300 * 2 ^ 520 from by rw [← Nat.pow_add]]
      exact Nat.mul_le_mul (by omega) fac520
    have bfs : B * fac * S ≤ 2 ^ 5480 := by
      rw [show (2 : Nat) ^ 5480 = 2 ^ 1820 * 2 ^ 3660 from by rw [← Nat.pow_add]]
      exact Nat.mul_le_mul bf S36
    refine ⟨_, rfl, _, rfl, _, rfl, _, _, rfl, rfl, ?_, _, rfl, _, _, rfl, rfl, ?_, l3, _, _, row, rfl, el3, by rw [tabI_len]; omega, bot0, ?_, by rw [tabI_len]; exact lrow, fun i => ?_, fun r H6 s6 hr6 => ?_⟩
    · exact big_mulW (by rw [Int.natAbs_natCast]; exact Nat.lt_of_le_of_lt BM (p39 hM)) (by rw [Int.natAbs_natCast]; exact lt39 fac520 (by decide))
    · refine big_mulW ?_ (by rw [Int.natAbs_natCast]; exact lt39 S36 (by decide))
      show ((B : Int) * (fac : Int)).natAbs < _
      rw [← Int.natCast_mul, Int.natAbs_natCast]
      exact lt39 bf (by decide)
    · show ((B : Int) * (fac : Int) * (S : Int)).natAbs < _
      rw [← Int.natCast_mul, ← Int.natCast_mul, Int.natAbs_natCast]
      exact Nat.lt_of_le_of_lt bfs (Nat.pow_lt_pow_right (by decide) (by decide))
    · rw [ci_tab]
      show cf row i * (((B : Int) * (fac : Int) * (S : Int) : Int) : Rat) = _
      by_cases h : i < n + 1
      · rw [if_pos h, math i (by omega), Rat.intCast_mul, Rat.intCast_mul, Rat.natCast_mul]
        show cf row i * ((B : Rat) * (fac : Rat) * (S : Rat)) = _
        grind
      · rw [if_neg h, cf_ge (by omega), Rat.zero_mul]
        rfl
    · have bcg : ∀ i, (cg ms n S i).natAbs ≤ N * 2 ^ 2132 * S := fun i => by
        unfold cg
        rw [Int.natAbs_mul]
        refine Nat.mul_le_mul (bms i) ?_
        rw [← Int.natCast_ediv, Int.natAbs_natCast]
        exact Nat.div_le_self _ _
      have BF0 : 0 < B * fac * S := Nat.mul_pos (Nat.mul_pos B0 fac0) S0
      refine q r (B * fac * S) (2 ^ n * (N * 2 ^ 2132 * S)) H6 (s13.trans (s4.trans (s5.trans s6))) hr6 BF0 ?_ ?_ fun i => ?_
      · rw [Nat.pow_add, ← Nat.mul_assoc]
        exact Nat.mul_le_mul (Nat.mul_le_mul BM fac520) Sp
      · rw [Nat.pow_add, Nat.pow_add]
        refine Nat.le_trans (Nat.mul_le_mul_left _ (Nat.mul_le_mul_left _ Sp)) ?_
        rw [Nat.mul_comm (2 ^ n), Nat.mul_assoc N, Nat.mul_assoc N, Nat.mul_assoc (2 ^ 2132), Nat.mul_assoc (2 ^ 2132), Nat.mul_comm (2 ^ n)]
        exact Nat.le_refl _
      · by_cases h : i < n + 1
        · refine ⟨acc n (cg ms n S) i, ?_, acc_bd bcg n i⟩
          rw [math i (by omega), Rat.natCast_mul, Rat.natCast_mul, Rat.natCast_mul]
          grind
        · rw [cf_ge (by omega)]
          exact Fr.zero _ _
end

end Vf

set_option maxRecDepth 100000
set_option maxHeartbeats 8000000
namespace Vf
open PySem PySem.Spec PyProof.Rows L2
/-! ### the law's ratios, more -/
def spLSh : Sp := fun vs H Q _ => ∃ (r1 r2 : Addr) (a b : Rat), vs = [.ref r1, .ref r2] ∧ TR H r1 a ∧ TR H r2 b ∧ Sr a ∧ Sr b ∧ b ≠ 0 ∧ ∀ (r : Addr) (H' : Hp), Same H H' → H r = none → TR H' r (a / b) → Q (.ref r) H'
theorem low_share {a b : Rat} (h : b ≠ 0) : low (a.num * b.den) ((a.den : Int) * b.num) = pq (a / b) ∧ (a.den : Int) * b.num ≠ 0 := by
  have hn : b.num ≠ 0 := fun z => h (Rat.num_eq_zero.mp z)
  have h0 : (a.den : Int) * b.num ≠ 0 := Int.mul_ne_zero (by have := a.den_nz; omega) hn
  refine ⟨low_mul h0 ?_, h0⟩
  have e1 : ((((a.den : Nat) : Int) * b.num : Int) : Rat) = ((a.den : Nat) : Rat) * (b.num : Rat) := by exact_mod_cast rfl
  have e2 : ((a.num * (b.den : Int) : Int) : Rat) = (a.num : Rat) * ((b.den : Nat) : Rat) := by exact_mod_cast rfl
  rw [e1, e2, ← num_den a, ← num_den b]
  have e3 : a / b * b = a := Rat.div_mul_cancel h
  calc a / b * (((a.den : Nat) : Rat) * (b * ((b.den : Nat) : Rat))) = (a / b * b) * ((a.den : Nat) : Rat) * ((b.den : Nat) : Rat) := by grind
    _ = a * ((a.den : Nat) : Rat) * ((b.den : Nat) : Rat) := by rw [e3]
theorem sr_prod {a b : Int} (ha : a.natAbs < 2 ^ 4300) (hb : b.natAbs < 2 ^ 4300) : (a * b).natAbs < 2 ^ 8800 := by
  rw [Int.natAbs_mul]
  have := Nat.mul_lt_mul'' ha hb
  rw [pow_add2] at this
  exact Nat.lt_trans this (Nat.pow_lt_pow_right (by decide) (by decide))
def rSub (a b : Rat) : Rat := a - b
theorem low_sub (a b : Rat) : low (a.num * b.den - b.num * a.den) ((a.den : Int) * b.den) = pq (a - b) := by
  have h := low_add a (-b)
  rw [Rat.neg_num, Rat.neg_den, Int.neg_mul, ← Int.sub_eq_add_neg, ← Rat.sub_eq_add_neg] at h
  exact h
theorem sr_neg' {q : Rat} (h : Sr q) : Sr (-q) := ⟨by rw [Rat.neg_num, Int.natAbs_neg]; exact h.1, by rw [Rat.neg_den]; exact h.2⟩
theorem lt_cross {g e : Rat} {t b x c : Int} (hg : g * (b : Rat) = (t : Rat)) (he : e * (c : Rat) = (x : Rat)) (hb : 0 < b) (hc : 0 < c) : (t * c < x * b) ↔ g < e := by
  have hb' : (0 : Rat) < (b : Rat) := by exact_mod_cast hb
  have hc' : (0 : Rat) < (c : Rat) := by exact_mod_cast hc
  have h1 : (t * c < x * b) ↔ ((t : Rat) * (c : Rat) < (x : Rat) * (b : Rat)) := by
    rw [← Rat.intCast_mul, ← Rat.intCast_mul]
    exact_mod_cast Iff.rfl
  rw [h1, ← hg, ← he]
  have hbc := Rat.mul_pos hb' hc'
  constructor
  · intro h
    by_cases z : g < e
    · exact z
    · have := Rat.mul_nonneg (show 0 ≤ g - e by grind) (show 0 ≤ (b : Rat) * c by grind)
      grind
  · intro h
    have := Rat.mul_pos (show 0 < e - g by grind) hbc
    grind
def spLess : Sp := fun vs H Q _ => ∃ (r1 r2 : Addr) (a b : Rat), vs = [.ref r1, .ref r2] ∧ TR H r1 a ∧ TR H r2 b ∧ Sr a ∧ Sr b ∧ Q (.bl (decide (a < b))) H
section
variable {P : Program} {w : World} {K : PySem.W.Frag} {mg : Str → Option Value} {base : Heap} {CP CR CN : Addr}
abbrev sLShare : Stmt := topS 52
theorem scLShare : FnScope ["_law_one", "_law_two"] ["_law_one", "_law_two"] (defScope sLShare) := ⟨rfl, rfl, rfl, by decide +kernel, rfl, by decide +kernel, by decide +kernel⟩
theorem ok_lshare {f : Addr} {fd : FuncData} (F : Fun K "_law_share" "_law_share" sLShare f fd) (G__law_q : Df P w K mg base "_law_q" 2 ["_law_top", "_law_bottom"] spQ) : FnOk P w K mg base CX0 3 f fd ["_law_one", "_law_two"] spLSh := by
  refine F.ok scLShare (fun vs H Q E h => ?_) (fun cdv A outer s H vs Q E hr h => ?_)
  · obtain ⟨r1, r2, a, b, rfl, _⟩ := h
    rfl
  · obtain ⟨r1, r2, a, b, rfl, h1, h2, za, zb, b0, q⟩ := h
    refine ⟨_, (pss_one (ps_ret (pe_call G__law_q.ok (hr.mono (by decide)) rfl G__law_q.m G__law_q.kp G__law_q.b .nil pass0 (pa_cons (pe_op op_mulW (pe_ix ix_tup (pv 0) pe_int (fun _ _ => rfl)) (pe_ix ix_tup (pv 1) pe_int (fun _ _ => rfl))) (pa_cons (pe_op op_mulW (pe_ix ix_tup (pv 0) pe_int (fun _ _ => rfl)) (pe_ix ix_tup (pv 1) pe_int (fun _ _ => rfl))) pa_nil))))), ?_⟩
    obtain ⟨el, e0⟩ := low_share (a := a) b0
    refine ⟨_, rfl, r1, _, _, .int a.num, rfl, rfl, SqT.of h1, at_of (j := 0) rfl rfl, _, rfl, r2, _, _, .int b.den, rfl, rfl, SqT.of h2, at_of (j := 1) rfl rfl, _, _, rfl, rfl, big_mulW za.n zb.d, ?_⟩
    refine ⟨_, rfl, r1, _, _, .int a.den, rfl, rfl, SqT.of h1, at_of (j := 1) rfl rfl, _, rfl, r2, _, _, .int b.num, rfl, rfl, SqT.of h2, at_of (j := 0) rfl rfl, _, _, rfl, rfl, big_mulW za.d zb.n, ?_⟩
    refine ⟨_, _, rfl, e0, sr_prod za.1 (by rw [Int.natAbs_natCast]; exact zb.2), sr_prod (by rw [Int.natAbs_natCast]; exact za.2) zb.1, fun r H' ss nr er => ?_⟩
    rw [el] at er
    exact q r H' ss nr er
abbrev sLMinus : Stmt := topS 50
theorem scLMinus : FnScope ["_law_one", "_law_two"] ["_law_one", "_law_two"] (defScope sLMinus) := ⟨rfl, rfl, rfl, by decide +kernel, rfl, by decide +kernel, by decide +kernel⟩
theorem ok_lminus {f : Addr} {fd : FuncData} (F : Fun K "_law_minus" "_law_minus" sLMinus f fd) (G__law_q : Df P w K mg base "_law_q" 2 ["_law_top", "_law_bottom"] spQ) : FnOk P w K mg base CX0 3 f fd ["_law_one", "_law_two"] (spL2 rSub) := by
  refine F.ok scLMinus (fun vs H Q E h => ?_) (fun cdv A outer s H vs Q E hr h => ?_)
  · obtain ⟨r1, r2, a, b, rfl, _⟩ := h
    rfl
  · obtain ⟨r1, r2, a, b, rfl, h1, h2, za, zb, q⟩ := h
    refine ⟨_, (pss_one (ps_ret (pe_call G__law_q.ok (hr.mono (by decide)) rfl G__law_q.m G__law_q.kp G__law_q.b .nil pass0 (pa_cons (pe_op op_sub (pe_op op_mulW (pe_ix ix_tup (pv 0) pe_int (fun _ _ => rfl)) (pe_ix ix_tup (pv 1) pe_int (fun _ _ => rfl))) (pe_op op_mulW (pe_ix ix_tup (pv 1) pe_int (fun _ _ => rfl)) (pe_ix ix_tup (pv 0) pe_int (fun _ _ => rfl)))) (pa_cons (pe_op op_mulW (pe_ix ix_tup (pv 0) pe_int (fun _ _ => rfl)) (pe_ix ix_tup (pv 1) pe_int (fun _ _ => rfl))) pa_nil))))), ?_⟩
    obtain ⟨s1, s2, s3⟩ := sr_sum za (sr_neg' zb)
    rw [Rat.neg_num, Rat.neg_den, Int.neg_mul, ← Int.sub_eq_add_neg] at s1
    rw [Rat.neg_den] at s2
    refine ⟨_, rfl, r1, _, _, .int a.num, rfl, rfl, SqT.of h1, at_of (j := 0) rfl rfl, _, rfl, r2, _, _, .int b.den, rfl, rfl, SqT.of h2, at_of (j := 1) rfl rfl, _, _, rfl, rfl, big_mulW za.n zb.d, ?_⟩
    refine ⟨_, rfl, r2, _, _, .int b.num, rfl, rfl, SqT.of h2, at_of (j := 0) rfl rfl, _, rfl, r1, _, _, .int a.den, rfl, rfl, SqT.of h1, at_of (j := 1) rfl rfl, _, _, rfl, rfl, big_mulW zb.n za.d, ?_⟩
    refine ⟨_, _, rfl, rfl, ?_⟩
    refine ⟨_, rfl, r1, _, _, .int a.den, rfl, rfl, SqT.of h1, at_of (j := 1) rfl rfl, _, rfl, r2, _, _, .int b.den, rfl, rfl, SqT.of h2, at_of (j := 1) rfl rfl, _, _, rfl, rfl, big_mulW za.d zb.d, ?_⟩
    refine ⟨_, _, rfl, den_ne a b, s1, s2, fun r H' ss nr er => ?_⟩
    rw [low_sub] at er
    exact q r H' ss nr er
abbrev sLLess : Stmt := topS 53
theorem scLLess : FnScope ["_law_one", "_law_two"] ["_law_one", "_law_two"] (defScope sLLess) := ⟨rfl, rfl, rfl, by decide +kernel, rfl, by decide +kernel, by decide +kernel⟩
theorem ok_lless {f : Addr} {fd : FuncData} (F : Fun K "_law_less" "_law_less" sLLess f fd) : FnOk P w K mg base CX0 1 f fd ["_law_one", "_law_two"] spLess := by
  refine F.ok scLLess (fun vs H Q E h => ?_) (fun cdv A outer s H vs Q E hr h => ?_)
  · obtain ⟨r1, r2, a, b, rfl, _⟩ := h
    rfl
  · obtain ⟨r1, r2, a, b, rfl, h1, h2, za, zb, q⟩ := h
    refine ⟨_, (pss_one (ps_ret (pe_cmpR op_lt (pe_op op_mulW (pe_ix ix_tup (pv 0) pe_int (fun _ _ => rfl)) (pe_ix ix_tup (pv 1) pe_int (fun _ _ => rfl))) (pe_op op_mulW (pe_ix ix_tup (pv 1) pe_int (fun _ _ => rfl)) (pe_ix ix_tup (pv 0) pe_int (fun _ _ => rfl))) (nomark _)))), ?_⟩
    refine ⟨_, rfl, r1, _, _, .int a.num, rfl, rfl, SqT.of h1, at_of (j := 0) rfl rfl, _, rfl, r2, _, _, .int b.den, rfl, rfl, SqT.of h2, at_of (j := 1) rfl rfl, _, _, rfl, rfl, big_mulW za.n zb.d, ?_⟩
    refine ⟨_, rfl, r2, _, _, .int b.num, rfl, rfl, SqT.of h2, at_of (j := 0) rfl rfl, _, rfl, r1, _, _, .int a.den, rfl, rfl, SqT.of h1, at_of (j := 1) rfl rfl, _, _, rfl, rfl, big_mulW zb.n za.d, ?_⟩
    refine ⟨_, _, rfl, rfl, ?_⟩
    have e : decide (a < b) = decide (a.num * (b.den : Int) < b.num * (a.den : Int)) := by
      rw [decide_eq_decide]
      exact (lt_cross (by rw [Rat.intCast_natCast]; exact num_den a) (by rw [Rat.intCast_natCast]; exact num_den b) (by have := a.den_pos; omega) (by have := b.den_pos; omega)).symm
    rw [e] at q
    exact q
abbrev sLWhole : Stmt := topS 46
theorem scLWhole : FnScope ["_law_thing"] ["_law_thing"] (defScope sLWhole) := ⟨rfl, rfl, rfl, by decide +kernel, rfl, by decide +kernel, by decide +kernel⟩
theorem ok_lwhole {f : Addr} {fd : FuncData} (F : Fun K "_law_is_whole" "_law_is_whole" sLWhole f fd) (T : Bk mg) : FnOk P w K mg base CX0 1 f fd ["_law_thing"] (spWhole K) := by
  refine F.ok scLWhole (fun vs H Q E h => ?_) (fun cdv A outer s H vs Q E hr h => ?_)
  · obtain ⟨v, d, rfl, _⟩ := h
    rfl
  · obtain ⟨v, d, rfl, hd, q⟩ := h
    refine ⟨_, (pss_one (ps_ret (pe_and (pe_callB call_isi (by rfl) T.isinstance (by decide +kernel) (pa_cons (pv 0) (pa_cons (pe_bltn (v := V.ty "int") (by rfl) T.int (by decide +kernel) rfl) pa_nil)))
      (pe_one (pe_not (pe_callB call_isi (by rfl) T.isinstance (by decide +kernel) (pa_cons (pv 0) (pa_cons (pe_bltn (v := V.ty "bool") (by rfl) T.bool (by decide +kernel) rfl) pa_nil)))))))), ?_⟩
    refine ⟨_, rfl, v, .ty "int", _, .type "int", _, rfl, .ty _, hd.ty, kit_int d, _, rfl, ?_⟩
    cases hi : intD d with
    | false =>
      refine iteF ?_
      have e : wholeD d = false := by cases d <;> first | rfl | (exact absurd hi (fun z => by cases z))
      rw [e] at q
      exact q
    | true =>
      refine iteT ?_
      refine ⟨_, rfl, v, .ty "bool", _, .type "bool", _, rfl, .ty _, hd.ty, kit_bool d, _, rfl, ?_⟩
      have e : wholeD d = !boolD d := by cases d <;> first | rfl | (exact absurd hi (fun z => by cases z))
      rw [e] at q
      exact q
end

end Vf

set_option maxRecDepth 100000
set_option maxHeartbeats 8000000
namespace Vf
open PySem PySem.Spec PyProof.Rows L2
/-! ### the law's intervals -/
theorem kit_tup {K : PySem.W.Frag} : PySem.W.kitOne K (.type "tuple") (.type "tuple") = some true := by rfl
theorem par_one {ta tb : TE} {i j : Nat} {D : Ends} {σ : L2.St} {H : Hp} (h : ta σ H fun v H1 => tb σ H1 fun w H2 => D.nx ((σ.set i (some v)).set j (some w)) H2) : tPar i j (tCons ta (tCons tb tNil)) D σ H := by
  show ta σ H fun v H1 => tb σ H1 fun w H2 => ∃ x y, [v, w] = [x, y] ∧ D.nx ((σ.set i (some x)).set j (some y)) H2
  have f : (fun v H1 => tb σ H1 fun w H2 => ∃ x y, [v, w] = [x, y] ∧ D.nx ((σ.set i (some x)).set j (some y)) H2) = (fun v H1 => tb σ H1 fun w H2 => D.nx ((σ.set i (some v)).set j (some w)) H2) := by
    funext v H1
    congr 1
    funext w H2
    refine propext ⟨fun ⟨x, y, e, h⟩ => ?_, fun h => ⟨v, w, rfl, h⟩⟩
    cases e
    exact h
  rw [f]
  exact h
theorem par_two {ta tb : TE} {i j : Nat} {rest : TS} {D : Ends} {σ : L2.St} {H : Hp} (h : ta σ H fun v H1 => tb σ H1 fun w H2 => rest D ((σ.set i (some v)).set j (some w)) H2) : tSeq (tPar i j (tCons ta (tCons tb tNil))) rest D σ H := par_one (D := { D with nx := rest D }) h
def BqQ (q : Rat) : Prop := q.num.natAbs ≤ 2 ^ 15 ∧ q.den ≤ 2 ^ 9
def spIsRt : Sp := fun vs H Q _ => ∃ (r : Addr) (q : Rat), vs = [.ref r] ∧ TR H r q ∧ q.num.natAbs < 2 ^ big ∧ q.den < 2 ^ big ∧ ∀ H', Same H H' → Q (.bl true) H'
def spMid : Sp := fun vs H Q _ => ∃ (r1 r2 : Addr) (a b : Rat), vs = [.ref r1, .ref r2] ∧ TR H r1 a ∧ TR H r2 b ∧ Sr a ∧ Sr b ∧ Sr (a + b) ∧ ∀ (r : Addr) (H' : Hp), Same H H' → TR H' r ((a + b) / 2) → Q (.ref r) H'
def spIv : Sp := fun vs H Q _ => ∃ (p lc : Addr) (B m : Int), vs = [.ref p, .int m] ∧ 1 ≤ m ∧ m ≤ 50 ∧ Pen H p lc B ∧ B ≤ 1000000 ∧
  ∀ (t r1 r2 : Addr) (lo hi : Rat) (H' : Hp), Pen H' p lc (B + 10) → Kp p H H' → H' t = some (.tup [.ref r1, .ref r2]) → t ≠ p → TR H' r1 lo → TR H' r2 hi → lo < hi → BqQ lo → BqQ hi → Q (.ref t) H'
def spWays : Sp := fun vs H Q _ => ∃ n : Nat, vs = [.int (n : Int)] ∧ n ≤ 60 ∧ ∀ (l : Addr) (H' : Hp), Same H H' → RI H' l (tabI (n + 1) fun k => ((ch n k : Nat) : Int)) → Q (.ref l) H'
def half1 : Rat := ⟨1, 2, by decide, by decide⟩
theorem half_mul (x : Rat) : x * half1 = x / 2 := by
  have : half1 * 2 = 1 := by decide +kernel
  grind
section
variable {P : Program} {w : World} {K : PySem.W.Frag} {mg : Str → Option Value} {base : Heap} {CP CR CN CI : Addr}
abbrev sLIsRatio : Stmt := topS 54
theorem scLIsRatio : FnScope ["_law_thing"] ["_law_thing"] (defScope sLIsRatio) := ⟨rfl, rfl, rfl, by decide +kernel, rfl, by decide +kernel, by decide +kernel⟩
theorem ok_lisratio {f : Addr} {fd : FuncData} (F : Fun K "_law_is_ratio" "_law_is_ratio" sLIsRatio f fd) (T : Bk mg) (G__law_is_whole : Df P w K mg base "_law_is_whole" 1 ["_law_thing"] (spWhole K)) (G__law_gcd : Df P w K mg base "_law_gcd" 1 ["_law_one", "_law_two"] spGcd) : FnOk P w K mg base CX0 2 f fd ["_law_thing"] spIsRt := by
  refine F.ok scLIsRatio (fun vs H Q E h => ?_) (fun cdv A outer s H vs Q E hr h => ?_)
  · obtain ⟨r, q, rfl, _⟩ := h
    rfl
  · obtain ⟨r, x, rfl, hx, zn, zd, q⟩ := h
    refine ⟨_, (pss_cons (ps_if (PW.pt (pw_or (pt_not (pt_val (pe_callB call_isi (by rfl) T.isinstance (by decide +kernel) (pa_cons (pv 0) (pa_cons (pe_bltn (v := V.ty "tuple") (by rfl) T.tuple (by decide +kernel) rfl) pa_nil))))) (pw_or1 (pt_cmpR op_ne (pe_callB call_len_seq (by rfl) T.len (by decide +kernel) (pa_cons (pv 0) pa_nil)) pe_int (nomark _)))))
    (pss_one (ps_ret pe_bl))
    pss_nil)
  (pss_cons (ps_if (PW.pt (pw_or (pt_not (pt_val (pe_call G__law_is_whole.ok (hr.mono (by decide)) rfl G__law_is_whole.m G__law_is_whole.kp G__law_is_whole.b .nil pass0 (pa_cons (pe_ix ix_tup (pv 0) pe_int (fun _ _ => rfl)) pa_nil)))) (pw_or1 (pt_not (pt_val (pe_call G__law_is_whole.ok (hr.mono (by decide)) rfl G__law_is_whole.m G__law_is_whole.kp G__law_is_whole.b .nil pass0 (pa_cons (pe_ix ix_tup (pv 0) pe_int (fun _ _ => rfl)) pa_nil)))))))
    (pss_one (ps_ret pe_bl))
    pss_nil)
  (pss_one (ps_ret (pe_and (pe_cmpR op_gt (pe_ix ix_tup (pv 0) pe_int (fun _ _ => rfl)) pe_int (nomark _)) (pe_one (pe_cmpR op_eq (pe_call G__law_gcd.ok (hr.mono (by decide)) rfl G__law_gcd.m G__law_gcd.kp G__law_gcd.b .nil pass0 (pa_cons (pe_ix ix_tup (pv 0) pe_int (fun _ _ => rfl)) (pa_cons (pe_ix ix_tup (pv 0) pe_int (fun _ _ => rfl)) pa_nil))) pe_int (nomark _)))))))), ?_⟩
    have hD : Dt K H (.ref r) (.tuple [.int x.num, .int (x.den : Int)]) := .tup (SqT.of hx) (.cons (.int _) (.cons (.int _) .nil))
    refine ⟨_, rfl, .ref r, .ty "tuple", _, .type "tuple", _, rfl, .ty _, hD.ty, kit_tup, _, rfl, ?_⟩
    refine iteF ?_
    refine ⟨_, rfl, r, _, rfl, .inr (SqT.of hx), rfl, _, rfl, ?_⟩
    refine iteF ?_
    refine ⟨_, rfl, r, _, _, .int x.num, rfl, rfl, SqT.of hx, at_of (j := 0) rfl rfl, .int x.num, .int x.num, rfl, .int _, ?_⟩
    refine ⟨true, rfl, ?_⟩
    refine iteF ?_
    refine ⟨_, rfl, r, _, _, .int (x.den : Int), rfl, rfl, SqT.of hx, at_of (j := 1) rfl rfl, .int (x.den : Int), .int (x.den : Int), rfl, .int _, ?_⟩
    refine ⟨true, rfl, ?_⟩
    refine iteF ?_
    refine ⟨_, rfl, r, _, _, .int (x.den : Int), rfl, rfl, SqT.of hx, at_of (j := 1) rfl rfl, _, _, rfl, rfl, ?_⟩
    have d0 := x.den_pos
    refine ⟨true, congrArg V.bl (decide_eq_true (show (0 : Int) < (x.den : Int) by omega)), ?_⟩
    refine iteT ?_
    refine ⟨_, rfl, r, _, _, .int x.num, rfl, rfl, SqT.of hx, at_of (j := 0) rfl rfl, _, rfl, r, _, _, .int (x.den : Int), rfl, rfl, SqT.of hx, at_of (j := 1) rfl rfl, _, _, rfl, zn, by rw [Int.natAbs_natCast]; exact zd, ?_⟩
    rw [Int.natAbs_natCast, x.reduced]
    refine ⟨rfl, ?_⟩
    exact q H (Same.refl _)
abbrev sLMid : Stmt := topS 58
theorem scLMid : FnScope ["_law_one", "_law_two"] ["_law_one", "_law_two"] (defScope sLMid) := ⟨rfl, rfl, rfl, by decide +kernel, rfl, by decide +kernel, by decide +kernel⟩
theorem ok_lmid {f : Addr} {fd : FuncData} (F : Fun K "_law_middle" "_law_middle" sLMid f fd) (G__law_times : Df P w K mg base "_law_times" 3 ["_law_one", "_law_two"] (spL2 rMul)) (G__law_plus : Df P w K mg base "_law_plus" 3 ["_law_one", "_law_two"] (spL2 rAdd)) : FnOk P w K mg base CX0 4 f fd ["_law_one", "_law_two"] spMid := by
  refine F.ok scLMid (fun vs H Q E h => ?_) (fun cdv A outer s H vs Q E hr h => ?_)
  · obtain ⟨r1, r2, a, b, rfl, _⟩ := h
    rfl
  · obtain ⟨r1, r2, a, b, rfl, h1, h2, za, zb, zc, q⟩ := h
    refine ⟨_, (pss_one (ps_ret (pe_call G__law_times.ok (hr.mono (by decide)) rfl G__law_times.m G__law_times.kp G__law_times.b .nil pass0 (pa_cons (pe_call G__law_plus.ok (hr.mono (by decide)) rfl G__law_plus.m G__law_plus.kp G__law_plus.b .nil pass0 (pa_cons (pv 0) (pa_cons (pv 1) pa_nil))) (pa_cons (pe_tup (pa_cons pe_int (pa_cons pe_int pa_nil))) pa_nil))))), ?_⟩
    refine ⟨_, rfl, _, rfl, r1, r2, a, b, rfl, h1, h2, za, zb, fun r H1 s1 nr hr1 => ?_⟩
    refine ⟨(by show 2 ≤ sizeLine; decide), fun t nt => ?_⟩
    have et : upd H1 t (HO.tup [V.int 1, V.int 2]) t = some (HO.tup [V.int 1, V.int 2]) := upd_same
    have s2 : Same H1 (upd H1 t (HO.tup [V.int 1, V.int 2])) := same_upd nt
    try dsimp only [] at nt ⊢
    generalize upd H1 t (HO.tup [V.int 1, V.int 2]) = H2 at et s2 ⊢
    refine ⟨r, t, rAdd a b, half1, rfl, hr1.same s2, et, zc, ⟨by show (1 : Nat) < 2 ^ 4300; exact Nat.one_lt_pow (by decide) (by decide), by show (2 : Nat) < 2 ^ 4300; exact Nat.lt_of_lt_of_le (show 2 < 2 ^ 2 by decide) (Nat.pow_le_pow_right (by decide) (by decide))⟩, fun r' H3 s3 nr' hr' => ?_⟩
    refine q r' H3 (s1.trans (s2.trans s3)) ?_
    rw [← half_mul]
    exact hr'
abbrev sLWays : Stmt := topS 68
theorem scLWays : FnScope ["_law_n", "_law_row", "_law_lap", "_law_a", "_law_b"] ["_law_n"] (defScope sLWays) := ⟨rfl, rfl, rfl, by decide +kernel, rfl, by decide +kernel, by decide +kernel⟩
theorem ok_lways {f : Addr} {fd : FuncData} (F : Fun K "_law_ways" "_law_ways" sLWays f fd) (T : Bk mg) (hzip : mg "zip" = none) : FnOk P w K mg base CX0 1 f fd ["_law_n"] spWays := by
  refine F.ok scLWays (fun vs H Q E h => ?_) (fun cdv A outer s H vs Q E hr h => ?_)
  · obtain ⟨n, rfl, _⟩ := h
    rfl
  · obtain ⟨n, rfl, hn, q⟩ := h
    refine ⟨_, (pss_cons (ps_set (i := 1) scLWays.nd rfl (Or.inl rfl) (pe_lst (pa_cons pe_int pa_nil)))
  (pss_cons (ps_for PassesOwn.never rfl (pi_range1 (by rfl) T.range (pa_cons (pv 0) pa_nil)) (pg_name (i := 2) scLWays.nd rfl (Or.inl rfl))
    (pss_one (ps_setLc (i := 1) (own := [("_law_a", 3), ("_law_b", 4)]) (g := (gTup K 2 (gCons (gName 3) (gCons (gName 4) gNil)))) (tt := tYes) rfl scLWays.nd rfl rfl (sw_true rfl rfl rfl (by decide +kernel)) (pi_zipB (by rfl) hzip (pa_cons (pe_op op_cat (pe_lst (pa_cons pe_int pa_nil)) (pv 1)) (pa_cons (pe_op op_cat (pv 1) (pe_lst (pa_cons pe_int pa_nil))) pa_nil))) (blkOk_by (N := ["_law_n", "_law_row", "_law_lap", "_law_a", "_law_b"]) (sc := defScope sLWays) (by decide +kernel)) (fun _ _ _ _ _ => pg_tup rfl (pgs_cons (pg_name (i := 3) scLWays.nd rfl (Or.inl rfl)) (pgs_cons (pg_name (i := 4) scLWays.nd rfl (Or.inl rfl)) pgs_nil))) (fun _ _ _ _ _ => pts_nil) (fun _ _ _ _ _ => (pe_op op_add (pv 3) (pv 4))))))
  (pss_one (ps_ret (pv 1))))), ?_⟩
    refine ⟨(by show 1 ≤ sizeLine; decide), fun l nl => ?_⟩
    have el : upd H l (HO.lst [V.int 1]) l = some (HO.lst [V.int 1]) := upd_same
    have sl : Same H (upd H l (HO.lst [V.int 1])) := same_upd nl
    try dsimp only [] at nl ⊢
    generalize upd H l (HO.lst [V.int 1]) = H1 at el sl ⊢
    refine ⟨_, rfl, _, rfl, by omega, by omega, for_range (lo := 0) (n := ((n : Nat) : Int).toNat) (fun k σ H2 => ∃ (D : Addr) (v2 : Option V), σ = [some (.int (n : Int)), some (.ref D), v2, none, none] ∧ Same H H2 ∧ RI H2 D (tabI (k + 1) fun j => ((ch k j : Nat) : Int))) ⟨l, none, rfl, sl, el⟩ ?_ ?_⟩
    · rintro k σ H2 hk ⟨D, v2, rfl, s2, e2⟩
      rw [Int.toNat_natCast] at hk
      have l2 : (tabI (k + 1) fun j => ((ch k j : Nat) : Int)).length = k + 1 := tabI_len _ _
      refine ⟨(by show 1 ≤ sizeLine; decide), fun z nz => ?_⟩
      have ez : upd H2 z (HO.lst [V.int 0]) z = some (HO.lst [V.int 0]) := upd_same
      have s3 : Same H2 (upd H2 z (HO.lst [V.int 0])) := same_upd nz
      try dsimp only [] at nz ⊢
      generalize upd H2 z (HO.lst [V.int 0]) = H3 at ez s3 ⊢
      have e3 := e2.same s3
      refine ⟨_, rfl, z, D, _, _, rfl, rfl, ez, e3, (by rw [List.length_map, l2, sizeLine_eq]; show 1 + (k + 1) ≤ _; omega), fun A nA => ?_⟩
      have eA : RI (upd H3 A (HO.lst ([V.int 0] ++ (tabI (k + 1) fun j => ((ch k j : Nat) : Int)).map V.int))) A (0 :: tabI (k + 1) fun j => ((ch k j : Nat) : Int)) := upd_same
      have s4 : Same H3 (upd H3 A (HO.lst ([V.int 0] ++ (tabI (k + 1) fun j => ((ch k j : Nat) : Int)).map V.int))) := same_upd nA
      generalize upd H3 A (HO.lst ([V.int 0] ++ (tabI (k + 1) fun j => ((ch k j : Nat) : Int)).map V.int)) = H4 at eA s4 ⊢
      have e4 := e3.same s4
      refine ⟨_, rfl, (by show 1 ≤ sizeLine; decide), fun z2 nz2 => ?_⟩
      have ez2 : upd H4 z2 (HO.lst [V.int 0]) z2 = some (HO.lst [V.int 0]) := upd_same
      have s5 : Same H4 (upd H4 z2 (HO.lst [V.int 0])) := same_upd nz2
      try dsimp only [] at nz2 ⊢
      generalize upd H4 z2 (HO.lst [V.int 0]) = H5 at ez2 s5 ⊢
      have e5 := e4.same s5
      refine ⟨D, z2, _, _, rfl, rfl, e5, ez2, (by rw [List.length_map, l2, sizeLine_eq]; show k + 1 + 1 ≤ _; omega), fun A2 nA2 => ?_⟩
      have eA2 : RI (upd H5 A2 (HO.lst ((tabI (k + 1) fun j => ((ch k j : Nat) : Int)).map V.int ++ [V.int 0]))) A2 ((tabI (k + 1) fun j => ((ch k j : Nat) : Int)) ++ [0]) := by
        show upd H5 A2 _ A2 = _
        rw [upd_same, List.map_append]
        rfl
      have s6 : Same H5 (upd H5 A2 (HO.lst ((tabI (k + 1) fun j => ((ch k j : Nat) : Int)).map V.int ++ [V.int 0]))) := same_upd nA2
      generalize upd H5 A2 (HO.lst ((tabI (k + 1) fun j => ((ch k j : Nat) : Int)).map V.int ++ [V.int 0])) = H6 at eA2 s6 ⊢
      have eA6 := (eA.same s5).same s6
      have s26 : Same H H6 := s2.trans (s3.trans (s4.trans (s5.trans s6)))
      have ga : ∀ i, i < k + 2 → ((0 :: tabI (k + 1) fun j => ((ch k j : Nat) : Int)).map V.int)[i]? = some (V.int (if i = 0 then 0 else ((ch k (i - 1) : Nat) : Int))) := fun i hi => by
        cases i with
        | zero => rfl
        | succ i =>
          rw [if_neg (by omega), List.getElem?_map]
          show Option.map V.int ((tabI (k + 1) fun j => ((ch k j : Nat) : Int))[i]?) = _
          rw [ci_lt (by rw [l2]; omega), ci_tab, if_pos (by omega)]
          rfl
      have gb : ∀ i, i < k + 2 → (((tabI (k + 1) fun j => ((ch k j : Nat) : Int)) ++ [0]).map V.int)[i]? = some (V.int ((ch k i : Nat) : Int)) := fun i hi => by
        rw [List.getElem?_map]
        by_cases h : i < k + 1
        · rw [List.getElem?_append_left (by rw [l2]; exact h), ci_lt (by rw [l2]; exact h), ci_tab, if_pos h]
          rfl
        · rw [List.getElem?_append_right (by rw [l2]; omega), l2, show i - (k + 1) = 0 by omega, ch_over (by omega)]
          rfl
      refine ⟨true, true, A, A2, _, _, rfl, eA6.sq, eA2.sq, fun D5 nD5 => lc_zipM (k + 2) (by rw [List.length_map, List.length_map, List.length_append, List.length_cons, l2]; show k + 2 = min (k + 1 + 1) (k + 1 + 1); omega) (fun i H7 => Same H6 H7 ∧ RI H7 D5 (tabI i fun j => ((ch (k + 1) j : Nat) : Int))) ⟨same_upd nD5, upd_same⟩ (fun i H7 ⟨s7, _⟩ => ⟨(eA6.same s7).sq, (eA2.same s7).sq⟩) ?_ ?_⟩
      · intro i x y T' H7 hi hx hy ⟨s7, e7⟩ nT
        rw [ga i hi] at hx
        cases hx
        rw [gb i hi] at hy
        cases hy
        have sT : Same H7 (upd H7 T' (.tup [.int (if i = 0 then 0 else ((ch k (i - 1) : Nat) : Int)), .int ((ch k i : Nat) : Int)])) := same_upd nT
        refine ⟨T', _, rfl, SqT.of upd_same, rfl, _, _, rfl, _, _, rfl, rfl, rfl, ?_⟩
        refine ⟨_, rfl, _, rfl, _, _, rfl, rfl, ?_⟩
        refine ⟨_, sT _ _ e7, (by rw [List.length_map, tabI_len, sizeLine_eq]; omega), fun b' o' e' => ?_, ?_⟩
        · rw [upd_ne (ne_of_none e' nD5)]
          exact sT _ _ (s7 _ _ e')
        · show upd _ D5 _ D5 = _
          rw [upd_same, tabI_snoc, List.map_append]
          have : (if i = 0 then 0 else ((ch k (i - 1) : Nat) : Int)) + ((ch k i : Nat) : Int) = ((ch (k + 1) i : Nat) : Int) := by
            cases i with
            | zero => rw [if_pos rfl, ch_zero, ch_zero]; rfl
            | succ i => rw [if_neg (by omega), ch_step, Int.natCast_add, Nat.add_sub_cancel]
          show some (HO.lst (_ ++ [V.int ((if i = 0 then 0 else ((ch k (i - 1) : Nat) : Int)) + ((ch k i : Nat) : Int))])) = _
          rw [this]
          rfl
      · intro H7 ⟨s7, e7⟩
        exact ⟨D5, _, rfl, s26.trans s7, e7⟩
    · rintro σ H2 ⟨D, v2, rfl, s2, e2⟩
      rw [Int.toNat_natCast] at e2
      exact ⟨_, rfl, q D H2 s2 e2⟩
end

end Vf

set_option maxRecDepth 100000
set_option maxHeartbeats 8000000
namespace Vf
open PySem PySem.Spec PyProof.Rows L2
/-! ### from corners to powers, by the law -/
theorem w_size {lo hi : Rat} {T : Nat} (h1 : lo.num.natAbs ≤ 2 ^ T) (h2 : lo.den ≤ 2 ^ T) (h3 : hi.num.natAbs ≤ 2 ^ T) (h4 : hi.den ≤ 2 ^ T) : (hi - lo).num.natAbs ≤ 2 ^ (2 * T + 1) ∧ (hi - lo).den ≤ 2 ^ (2 * T) := by
  have e := low_sub hi lo
  have d0 := hi.den_pos
  have d1 := lo.den_pos
  obtain ⟨s1, s2⟩ := low_size (t := hi.num * lo.den - lo.num * hi.den) (b := (hi.den : Int) * lo.den) (Int.mul_ne_zero (by omega) (by omega))
  rw [e] at s1 s2
  have s1 : (hi - lo).num.natAbs ≤ (hi.num * lo.den - lo.num * hi.den).natAbs := s1
  have s2 : ((hi - lo).den : Int).natAbs ≤ ((hi.den : Int) * lo.den).natAbs := s2
  have p2 : (2 : Nat) ^ (2 * T) = 2 ^ T * 2 ^ T := by rw [← Nat.pow_add, show T + T = 2 * T by omega]
  have m1 : (hi.num * (lo.den : Int)).natAbs ≤ 2 ^ (2 * T) := by
    rw [Int.natAbs_mul, Int.natAbs_natCast, p2]
    exact Nat.mul_le_mul h3 h2
  have m2 : (lo.num * (hi.den : Int)).natAbs ≤ 2 ^ (2 * T) := by
    rw [Int.natAbs_mul, Int.natAbs_natCast, p2]
    exact Nat.mul_le_mul h1 h4
  have m3 : ((hi.den : Int) * (lo.den : Int)).natAbs ≤ 2 ^ (2 * T) := by
    rw [Int.natAbs_mul, Int.natAbs_natCast, Int.natAbs_natCast, p2]
    exact Nat.mul_le_mul h4 h2
  have := Int.natAbs_sub_le (hi.num * (lo.den : Int)) (lo.num * (hi.den : Int))
  rw [Int.natAbs_natCast] at s2
  have p3 : (2 : Nat) ^ (2 * T + 1) = 2 ^ (2 * T) + 2 ^ (2 * T) := by rw [Nat.pow_succ]; omega
  omega
theorem gn_par_two {ta tb : TE} {n i j : Nat} {v : V} {rest : TS} {D : Ends} {σ : L2.St} {H : Hp} (h : ta (σ.set n (some v)) H fun v1 H1 => tb (σ.set n (some v)) H1 fun w H2 => rest D (((σ.set n (some v)).set i (some v1)).set j (some w)) H2) : gName n v σ H { D with nx := tSeq (tPar i j (tCons ta (tCons tb tNil))) rest D }.nx := par_two h
theorem gn_par_two2 {ta tb : TE} {n i j : Nat} {v : V} {rest : TS} {D : Ends} {σ : L2.St} {H : Hp} (h : ta (σ.set n (some v)) H fun v1 H1 => tb (σ.set n (some v)) H1 fun w H2 => rest D (((σ.set n (some v)).set i (some v1)).set j (some w)) H2) : gName n v σ H (tSeq (tPar i j (tCons ta (tCons tb tNil))) rest D) := par_two h
def spFC : Sp := fun vs H Q _ => ∃ (l r1 r2 : Addr) (row : List Rat) (lo hi : Rat) (T L Nr : Nat), vs = [.ref l, .ref r1, .ref r2] ∧ RL H l row ∧ TR H r1 lo ∧ TR H r2 hi ∧ 0 < row.length ∧ row.length ≤ 16 ∧ (∀ i, Fr L Nr (cf row i)) ∧ 0 < L ∧ 0 < Nr ∧ L ≤ 2 ^ 1010 ∧ Nr ≤ 2 ^ 2725 ∧
  lo < hi ∧ lo.num.natAbs ≤ 2 ^ T ∧ lo.den ≤ 2 ^ T ∧ hi.num.natAbs ≤ 2 ^ T ∧ hi.den ≤ 2 ^ T ∧ T ≤ 15 ∧
  ∀ (l' : Addr) (qs : List Rat) (M N : Nat) (H' : Hp), Same H H' → RL H' l' qs → stripQ qs = qs → qs.length ≤ row.length → 0 < M → M ≤ 2 ^ ((5 * T + 1) * 15) * L → N ≤ 2 ^ ((5 * T + 6) * 15 + 20) * Nr → (∀ i, Fr M N (cf qs i)) →
    (∀ x, ev qs x = bn (row.length - 1) (cf row) ((x - lo) / (hi - lo)) ((hi - x) / (hi - lo))) → Q (.ref l') H'
/-- rows of rows -/
def Pws (f : Rat → Rat) (M N : Nat) (H : Hp) (l : Addr) (m : Nat) : Prop := ∃ as : List Addr, H l = some (.lst (as.map V.ref)) ∧ as.length = m ∧ ∀ i a, as[i]? = some a → a ≠ l ∧ ∃ P, RL H a P ∧ PWr f M N i P
theorem RL.lst {H H' : Hp} {b l : Addr} {xs : List V} {qs : List Rat} (hb : H b = some (.lst xs)) (k : ∀ c u, c ≠ b → H c = some u → H' c = some u) (n : l ≠ b) (h : RL H l qs) : RL H' l qs := h.imp fun _ z => ⟨k _ _ n z.1, z.2.lst hb k⟩
theorem Pws.same {f : Rat → Rat} {M N : Nat} {H H' : Hp} {l : Addr} {m : Nat} (h : Pws f M N H l m) (s : Same H H') : Pws f M N H' l m := by
  obtain ⟨as, e, la, z⟩ := h
  exact ⟨as, s _ _ e, la, fun i a g => ⟨(z i a g).1, (z i a g).2.imp fun P w => ⟨w.1.same s, w.2⟩⟩⟩
theorem Pws.at {f : Rat → Rat} {M N : Nat} {H : Hp} {l : Addr} {m : Nat} (h : Pws f M N H l m) {i : Nat} (hi : i < m) : ∃ (as : List Addr) (a : Addr) (P : List Rat), H l = some (.lst (as.map V.ref)) ∧ as.length = m ∧ as[i]? = some a ∧ a ≠ l ∧ RL H a P ∧ PWr f M N i P := by
  obtain ⟨as, e, la, z⟩ := h
  have g : as[i]? = some as[i] := List.getElem?_eq_getElem (by omega)
  obtain ⟨n, P, w1, w2⟩ := z i _ g
  exact ⟨as, _, P, e, la, g, n, w1, w2⟩
theorem Pws.snoc {f : Rat → Rat} {M N : Nat} {H : Hp} {l a : Addr} {m : Nat} {P : List Rat} {as : List Addr} (h : Pws f M N H l m) (e : H l = some (.lst (as.map V.ref))) (hP : RL H a P) (hw : PWr f M N m P) (n : a ≠ l) : Pws f M N (upd H l (.lst (as.map V.ref ++ [V.ref a]))) l (m + 1) := by
  obtain ⟨as', e', la, z⟩ := h
  have : as.map V.ref = as'.map V.ref := by rw [e] at e'; injection e' with e'; injection e'
  rw [this]
  refine ⟨as' ++ [a], by rw [upd_same, List.map_append]; rfl, by rw [List.length_append, la]; rfl, fun i b g => ?_⟩
  by_cases hi : i < m
  · rw [List.getElem?_append_left (by omega)] at g
    obtain ⟨n1, Q, w1, w2⟩ := z i b g
    exact ⟨n1, Q, RL.lst e upd_away n1 w1, w2⟩
  · rw [List.getElem?_append_right (by omega), la] at g
    have : i = m := by
      refine Decidable.byContradiction fun z => ?_
      rw [List.getElem?_eq_none_iff.mpr (by show 1 ≤ i - m; omega)] at g
      cases g
    subst this
    rw [Nat.sub_self] at g
    cases g
    exact ⟨n, P, RL.lst e upd_away n hP, hw⟩
theorem Pws.not_row {f : Rat → Rat} {M N : Nat} {H : Hp} {l : Addr} {m : Nat} {qs : List Rat} (h : Pws f M N H l (m + 1)) (hq : RL H l qs) : False := by
  obtain ⟨as, a, P, e, la, g, n, ⟨bs, eb, tb⟩, hw⟩ := h.at (i := 0) (by omega)
  obtain ⟨cs, ec, tc⟩ := hq
  have e3 : cs.map V.ref = as.map V.ref := by rw [ec] at e; injection e with e; injection e
  have gm : (cs.map V.ref)[0]? = some (V.ref a) := by rw [e3, List.getElem?_map, g]; rfl
  rw [List.getElem?_map] at gm
  cases gc : cs[0]? with
  | none => rw [gc] at gm; cases gm
  | some c =>
    rw [gc] at gm
    cases gm
    obtain ⟨q, _, hq2⟩ := tc.atQ gc
    have hq3 : H a = some (.tup [.int q.num, .int (q.den : Int)]) := hq2
    rw [eb] at hq3
    cases hq3
theorem tr_int {H : Hp} {r : Addr} {z : Int} (h : H r = some (.tup [.int z, .int 1])) : TR H r (z : Rat) := h
theorem tr_negq {H : Hp} {r : Addr} {q : Rat} (h : H r = some (.tup [.int (-q.num), .int (q.den : Int)])) : TR H r (-q) := by
  unfold TR
  rw [Rat.neg_num, Rat.neg_den]
  exact h
theorem sr_of {q : Rat} {k : Nat} (h1 : q.num.natAbs ≤ 2 ^ k) (h2 : q.den ≤ 2 ^ k) (hk : k < 4300) : Sr q := ⟨Nat.lt_of_le_of_lt h1 (Nat.pow_lt_pow_right (by decide) hk), Nat.lt_of_le_of_lt h2 (Nat.pow_lt_pow_right (by decide) hk)⟩
theorem sr_int {z : Int} (h : z.natAbs ≤ 1) : Sr (z : Rat) := sr_of (k := 1) (by rw [Rat.num_intCast]; omega) (by rw [Rat.den_intCast]; decide) (by decide)
section
variable {P : Program} {w : World} {K : PySem.W.Frag} {mg : Str → Option Value} {base : Heap} {CP CR CN CI : Addr}
abbrev sFC : Stmt := topS 69
theorem scFC : FnScope ["_law_row", "_law_low", "_law_high", "_law_n", "_law_found", "_law_wide", "_law_up", "_law_down", "_law_ways_here", "_law_ups", "_law_lap", "_law_downs", "_law_k", "_law_part"] ["_law_row", "_law_low", "_law_high"] (defScope sFC) := ⟨rfl, rfl, rfl, by decide +kernel, rfl, by decide +kernel, by decide +kernel⟩
theorem ok_fc {f : Addr} {fd : FuncData} (F : Fun K "_law_from_corners" "_law_from_corners" sFC f fd) (T : Bk mg) (G__law_minus : Df P w K mg base "_law_minus" 3 ["_law_one", "_law_two"] (spL2 rSub)) (G__law_share : Df P w K mg base "_law_share" 3 ["_law_one", "_law_two"] spLSh) (G__law_times : Df P w K mg base "_law_times" 3 ["_law_one", "_law_two"] (spL2 rMul))
    (G__law_poly : Df P w K mg base "_law_poly" 1 ["_law_numbers"] (spLPoly K)) (G__law_ways : Df P w K mg base "_law_ways" 1 ["_law_n"] spWays) (G__law_p_times : Df P w K mg base "_law_p_times" 4 ["_law_one", "_law_two"] spLPT) (G__law_p_plus : Df P w K mg base "_law_p_plus" 4 ["_law_one", "_law_two"] spLPP) (G__law_p_scaled : Df P w K mg base "_law_p_scaled" 4 ["_law_one", "_law_by"] spLPS) :
    FnOk P w K mg base CX0 5 f fd ["_law_row", "_law_low", "_law_high"] spFC := by
  refine F.ok scFC (fun vs H Q E h => ?_) (fun cdv A outer s H vs Q E hr h => ?_)
  · obtain ⟨l, r1, r2, row, lo, hi, TT, L, Nr, rfl, _⟩ := h
    rfl
  · obtain ⟨l, r1, r2, row, lo, hi, TT, L, Nr, rfl, ⟨las, el, tl⟩, h1, h2, l0, l10, hF, L0, Nr0, Lb, Nrb, lt, b1, b2, b3, b4, T30, q⟩ := h
    refine ⟨_, (pss_cons (ps_par (i := 3) (j := 4) (by rfl) scFC.nd rfl rfl (by decide) rfl rfl (pa_cons (pe_op op_sub (pe_callB call_len_seq (by rfl) T.len (by decide +kernel) (pa_cons (pv 0) pa_nil)) pe_int) (pa_cons (pe_lst pa_nil) pa_nil)) (by rfl))
  (pss_cons (ps_set (i := 5) scFC.nd rfl (Or.inl rfl) (pe_call G__law_minus.ok (hr.mono (by decide)) rfl G__law_minus.m G__law_minus.kp G__law_minus.b .nil pass0 (pa_cons (pv 2) (pa_cons (pv 1) pa_nil))))
  (pss_cons (ps_set (i := 6) scFC.nd rfl (Or.inl rfl) (pe_call G__law_poly.ok (hr.mono (by decide)) rfl G__law_poly.m G__law_poly.kp G__law_poly.b .nil pass0 (pa_cons (pe_lst (pa_cons (pe_call G__law_share.ok (hr.mono (by decide)) rfl G__law_share.m G__law_share.kp G__law_share.b .nil pass0 (pa_cons (pe_tup (pa_cons (pe_un un_neg (pe_ix ix_tup (pv 1) pe_int (fun _ _ => rfl))) (pa_cons (pe_ix ix_tup (pv 1) pe_int (fun _ _ => rfl)) pa_nil))) (pa_cons (pv 5) pa_nil))) (pa_cons (pe_call G__law_share.ok (hr.mono (by decide)) rfl G__law_share.m G__law_share.kp G__law_share.b .nil pass0 (pa_cons (pe_tup (pa_cons pe_int (pa_cons pe_int pa_nil))) (pa_cons (pv 5) pa_nil))) pa_nil))) pa_nil)))
  (pss_cons (ps_set (i := 7) scFC.nd rfl (Or.inl rfl) (pe_call G__law_poly.ok (hr.mono (by decide)) rfl G__law_poly.m G__law_poly.kp G__law_poly.b .nil pass0 (pa_cons (pe_lst (pa_cons (pe_call G__law_share.ok (hr.mono (by decide)) rfl G__law_share.m G__law_share.kp G__law_share.b .nil pass0 (pa_cons (pv 2) (pa_cons (pv 5) pa_nil))) (pa_cons (pe_call G__law_share.ok (hr.mono (by decide)) rfl G__law_share.m G__law_share.kp G__law_share.b .nil pass0 (pa_cons (pe_tup (pa_cons (pe_un un_neg pe_int) (pa_cons pe_int pa_nil))) (pa_cons (pv 5) pa_nil))) pa_nil))) pa_nil)))
  (pss_cons (ps_par (i := 8) (j := 9) (by rfl) scFC.nd rfl rfl (by decide) rfl rfl (pa_cons (pe_call G__law_ways.ok (hr.mono (by decide)) rfl G__law_ways.m G__law_ways.kp G__law_ways.b .nil pass0 (pa_cons (pv 3) pa_nil)) (pa_cons (pe_lst (pa_cons (pe_lst (pa_cons (pe_tup (pa_cons pe_int (pa_cons pe_int pa_nil))) pa_nil)) pa_nil)) pa_nil)) (by rfl))
  (pss_cons (ps_for PassesOwn.never rfl (pi_range1 (by rfl) T.range (pa_cons (pv 3) pa_nil)) (pg_name (i := 10) scFC.nd rfl (Or.inl rfl))
    (pss_one (ps_expr (pe_bm PySem.F.plainAttrs_list PySem.F.slot_list_append PySem.F.type_list_append mt_append (pv 9) (pa_cons (pe_call G__law_p_times.ok (hr.mono (by decide)) rfl G__law_p_times.m G__law_p_times.kp G__law_p_times.b .nil pass0 (pa_cons (pe_ix ix_list (pv 9) (pe_un un_neg pe_int) (fun _ _ => rfl)) (pa_cons (pv 6) pa_nil))) pa_nil)))))
  (pss_cons (ps_set (i := 11) scFC.nd rfl (Or.inl rfl) (pe_lst (pa_cons (pe_lst (pa_cons (pe_tup (pa_cons pe_int (pa_cons pe_int pa_nil))) pa_nil)) pa_nil)))
  (pss_cons (ps_for PassesOwn.never rfl (pi_range1 (by rfl) T.range (pa_cons (pv 3) pa_nil)) (pg_name (i := 10) scFC.nd rfl (Or.inl rfl))
    (pss_one (ps_expr (pe_bm PySem.F.plainAttrs_list PySem.F.slot_list_append PySem.F.type_list_append mt_append (pv 11) (pa_cons (pe_call G__law_p_times.ok (hr.mono (by decide)) rfl G__law_p_times.m G__law_p_times.kp G__law_p_times.b .nil pass0 (pa_cons (pe_ix ix_list (pv 11) (pe_un un_neg pe_int) (fun _ _ => rfl)) (pa_cons (pv 7) pa_nil))) pa_nil)))))
  (pss_cons (ps_for PassesOwn.never rfl (pi_range1 (by rfl) T.range (pa_cons (pe_op op_add (pv 3) pe_int) pa_nil)) (pg_name (i := 12) scFC.nd rfl (Or.inl rfl))
    (pss_cons (ps_set (i := 13) scFC.nd rfl (Or.inl rfl) (pe_call G__law_p_times.ok (hr.mono (by decide)) rfl G__law_p_times.m G__law_p_times.kp G__law_p_times.b .nil pass0 (pa_cons (pe_ix ix_list (pv 9) (pv 12) (fun _ _ => rfl)) (pa_cons (pe_ix ix_list (pv 11) (pe_op op_sub (pv 3) (pv 12)) (fun _ _ => rfl)) pa_nil))))
    (pss_one (ps_set (i := 4) scFC.nd rfl (Or.inl rfl) (pe_call G__law_p_plus.ok (hr.mono (by decide)) rfl G__law_p_plus.m G__law_p_plus.kp G__law_p_plus.b .nil pass0 (pa_cons (pv 4) (pa_cons (pe_call G__law_p_scaled.ok (hr.mono (by decide)) rfl G__law_p_scaled.m G__law_p_scaled.kp G__law_p_scaled.b .nil pass0 (pa_cons (pv 13) (pa_cons (pe_call G__law_times.ok (hr.mono (by decide)) rfl G__law_times.m G__law_times.kp G__law_times.b .nil pass0 (pa_cons (pe_ix ix_list (pv 0) (pv 12) (fun _ _ => rfl)) (pa_cons (pe_tup (pa_cons (pe_ix ix_list (pv 8) (pv 12) (fun _ _ => rfl)) (pa_cons pe_int pa_nil))) pa_nil))) pa_nil))) pa_nil)))))))
  (pss_one (ps_ret (pv 4)))))))))))), ?_⟩
    have ll := tl.lenQ
    have lm : (las.map V.ref).length = row.length := by rw [List.length_map, ll]
    obtain ⟨wn, wd⟩ := w_size b1 b2 b3 b4
    have w0 : hi - lo ≠ 0 := by grind
    have pw : ∀ {a b : Nat}, a ≤ b → (2 : Nat) ^ a ≤ 2 ^ b := fun h => Nat.pow_le_pow_right (by decide) h
    have srl : Sr lo := sr_of b1 b2 (by omega)
    have srh : Sr hi := sr_of b3 b4 (by omega)
    have srw : Sr (hi - lo) := sr_of wn (Nat.le_trans wd (pw (by omega))) (by omega)
    have srn : Sr (-lo) := sr_neg' srl
    refine par_two ?_
    refine ⟨_, rfl, l, _, rfl, .inl (SqL.of el), _, _, rfl, rfl, (by show 0 ≤ sizeLine; decide), fun f0 nf0 => ?_⟩
    have ef0 : upd H f0 (HO.lst []) f0 = some (HO.lst []) := upd_same
    have s1 : Same H (upd H f0 (HO.lst [])) := same_upd nf0
    try dsimp only [tNil] at nf0 ⊢
    generalize upd H f0 (HO.lst []) = H1 at ef0 s1 ⊢
    rw [lm, show ((row.length : Nat) : Int) - 1 = ((row.length - 1 : Nat) : Int) by omega]
    generalize hn : row.length - 1 = n
    have n9 : n ≤ 15 := by omega
    refine ⟨_, rfl, _, rfl, r2, r1, hi, lo, rfl, h2.same s1, h1.same s1, srh, srl, fun wr H2 s2 nwr hwr => ?_⟩
    have ewq : rSub hi lo = hi - lo := rfl
    rw [ewq] at hwr
    generalize hwg : hi - lo = wq at *
    -- the rising line
    have h1a := (h1.same s1).same s2
    have h2a := (h2.same s1).same s2
    refine ⟨_, rfl, r1, _, _, .int lo.num, rfl, rfl, SqT.of h1a, at_of (j := 0) rfl rfl, _, rfl, _, rfl, r1, _, _, .int (lo.den : Int), rfl, rfl, SqT.of h1a, at_of (j := 1) rfl rfl, (by show 2 ≤ sizeLine; decide), fun t1 nt1 => ?_⟩
    have e1 : upd H2 t1 (HO.tup [V.int (-lo.num), V.int (lo.den : Int)]) t1 = some (HO.tup [V.int (-lo.num), V.int (lo.den : Int)]) := upd_same
    have s3 : Same H2 (upd H2 t1 (HO.tup [V.int (-lo.num), V.int (lo.den : Int)])) := same_upd nt1
    try dsimp only [tNil] at nt1 ⊢
    generalize upd H2 t1 (HO.tup [V.int (-lo.num), V.int (lo.den : Int)]) = H3 at e1 s3 ⊢
    have hw3 := hwr.same s3
    refine ⟨_, rfl, t1, wr, -lo, wq, rfl, tr_negq e1, hw3, srn, srw, w0, fun u1 H4 s4 nu1 hu1 => ?_⟩
    refine ⟨(by show 2 ≤ sizeLine; decide), fun t2 nt2 => ?_⟩
    have e2 : upd H4 t2 (HO.tup [V.int 1, V.int 1]) t2 = some (HO.tup [V.int 1, V.int 1]) := upd_same
    have s5 : Same H4 (upd H4 t2 (HO.tup [V.int 1, V.int 1])) := same_upd nt2
    try dsimp only [tNil] at nt2 ⊢
    generalize upd H4 t2 (HO.tup [V.int 1, V.int 1]) = H5 at e2 s5 ⊢
    have hw5 := (hw3.same s4).same s5
    refine ⟨_, rfl, t2, wr, ((1 : Int) : Rat), wq, rfl, tr_int e2, hw5, sr_int (by decide), srw, w0, fun u2 H6 s6 nu2 hu2 => ?_⟩
    refine ⟨(by show 2 ≤ sizeLine; decide), fun lu nlu => ?_⟩
    have elu : upd H6 lu (HO.lst [V.ref u1, V.ref u2]) lu = some (HO.lst ([u1, u2].map V.ref)) := upd_same
    have s7 : Same H6 (upd H6 lu (HO.lst [V.ref u1, V.ref u2])) := same_upd nlu
    try dsimp only [tNil] at nlu ⊢
    generalize upd H6 lu (HO.lst [V.ref u1, V.ref u2]) = H7 at elu s7 ⊢
    refine lpoly_q (qs := [-lo / wq, ((1 : Int) : Rat) / wq]) ⟨[u1, u2], elu, .cons (((hu1.same s5).same s6).same s7) (.cons (hu2.same s7) .nil)⟩ (by show 2 ≤ 1000; decide) fun up H8 s8 hup => ?_
    have s28 := s3.trans (s4.trans (s5.trans (s6.trans (s7.trans s8))))
    have h1b := h1a.same s28
    have h2b := h2a.same s28
    have hw8 := hwr.same s28
    -- the falling line
    refine ⟨_, rfl, _, rfl, r2, wr, hi, wq, rfl, h2b, hw8, srh, srw, w0, fun d1 H9 s9 nd1 hd1 => ?_⟩
    refine ⟨_, rfl, (by show 2 ≤ sizeLine; decide), fun t3 nt3 => ?_⟩
    have e3 : upd H9 t3 (HO.tup [V.int (-1), V.int 1]) t3 = some (HO.tup [V.int (-1), V.int 1]) := upd_same
    have s10 : Same H9 (upd H9 t3 (HO.tup [V.int (-1), V.int 1])) := same_upd nt3
    try dsimp only [tNil] at nt3 ⊢
    generalize upd H9 t3 (HO.tup [V.int (-1), V.int 1]) = H10 at e3 s10 ⊢
    have hw10 := (hw8.same s9).same s10
    refine ⟨_, rfl, t3, wr, ((-1 : Int) : Rat), wq, rfl, tr_int e3, hw10, sr_int (by decide), srw, w0, fun d2 H11 s11 nd2 hd2 => ?_⟩
    refine ⟨(by show 2 ≤ sizeLine; decide), fun ld nld => ?_⟩
    have eld : upd H11 ld (HO.lst [V.ref d1, V.ref d2]) ld = some (HO.lst ([d1, d2].map V.ref)) := upd_same
    have s12 : Same H11 (upd H11 ld (HO.lst [V.ref d1, V.ref d2])) := same_upd nld
    try dsimp only [tNil] at nld ⊢
    generalize upd H11 ld (HO.lst [V.ref d1, V.ref d2]) = H12 at eld s12 ⊢
    refine lpoly_q (qs := [hi / wq, ((-1 : Int) : Rat) / wq]) ⟨[d1, d2], eld, .cons (((hd1.same s10).same s11).same s12) (.cons (hd2.same s12) .nil)⟩ (by show 2 ≤ 1000; decide) fun dn H13 s13 hdn => ?_
    have s813 := s9.trans (s10.trans (s11.trans (s12.trans s13)))
    have hup13 := hup.same s813
    have ef13 := s813 _ _ (s28 _ _ (s2 _ _ ef0))
    have el13 := s813 _ _ (s28 _ _ (s2 _ _ (s1 _ _ el)))
    have tl13 := (((tl.same s1).same s2).same s28).same s813
    have sH13 : Same H H13 := s1.trans (s2.trans (s28.trans s813))
    clear nf0 nwr nu1 nu2 nd1 nd2 nt1 nt2 nt3 nlu nld
    -- their sizes
    let D := lo.den * hi.den
    have D0 : 0 < D := Nat.mul_pos lo.den_pos hi.den_pos
    have D2 : D ≤ 2 ^ (2 * TT) := by
      rw [show 2 * TT = TT + TT by omega, Nat.pow_add]
      exact Nat.mul_le_mul b2 b4
    have one1 : ∀ z : Int, z.natAbs = 1 → ((z : Rat)).num.natAbs ≤ 2 ^ TT ∧ ((z : Rat)).den ≤ 2 ^ TT ∧ ((z : Rat)).den ∣ D := fun z hz => by
      rw [Rat.num_intCast, Rat.den_intCast, hz]
      exact ⟨Nat.pow_pos (by decide), Nat.pow_pos (by decide), Nat.one_dvd _⟩
    have fru : ∀ i, Fr (D * wq.num.natAbs) (2 ^ (5 * TT)) (cf (stripQ [-lo / wq, ((1 : Int) : Rat) / wq]) i) := fun i => by
      rw [cf_two]
      split
      · exact fr_div (by rw [Rat.neg_num, Int.natAbs_neg]; exact b1) (by rw [Rat.neg_den]; exact b2) w0 wd D (by rw [Rat.neg_den]; exact Nat.dvd_mul_right _ _) D2 D0
      · split
        · exact fr_div (one1 1 rfl).1 (one1 1 rfl).2.1 w0 wd D (one1 1 rfl).2.2 D2 D0
        · exact Fr.zero _ _
    have frd : ∀ i, Fr (D * wq.num.natAbs) (2 ^ (5 * TT)) (cf (stripQ [hi / wq, ((-1 : Int) : Rat) / wq]) i) := fun i => by
      rw [cf_two]
      split
      · exact fr_div b3 b4 w0 wd D (Nat.dvd_mul_left _ _) D2 D0
      · split
        · exact fr_div (one1 (-1) rfl).1 (one1 (-1) rfl).2.1 w0 wd D (one1 (-1) rfl).2.2 D2 D0
        · exact Fr.zero _ _
    have wn0 : wq.num ≠ 0 := fun z => w0 (Rat.num_eq_zero.mp z)
    have M00 : 0 < D * wq.num.natAbs := Nat.mul_pos D0 (by omega)
    have M0b : D * wq.num.natAbs ≤ 2 ^ (5 * TT + 1) := by
      refine Nat.le_trans (Nat.mul_le_mul D2 wn) ?_
      rw [← Nat.pow_add]
      exact pw (by omega)
    have evu : ∀ x, ev (stripQ [-lo / wq, ((1 : Int) : Rat) / wq]) x = (x - lo) / wq := fun x => by
      rw [ev_two, show ((1 : Int) : Rat) = 1 from rfl]
      grind
    have evd : ∀ x, ev (stripQ [hi / wq, ((-1 : Int) : Rat) / wq]) x = (hi - x) / wq := fun x => by
      rw [ev_two, show ((-1 : Int) : Rat) = -1 from rfl]
      grind
    have lu2 : (stripQ [-lo / wq, ((1 : Int) : Rat) / wq]).length ≤ 2 := stripQ_le _
    have ld2 : (stripQ [hi / wq, ((-1 : Int) : Rat) / wq]).length ≤ 2 := stripQ_le _
    generalize stripQ [-lo / wq, ((1 : Int) : Rat) / wq] = U at hup13 fru evu lu2
    generalize stripQ [hi / wq, ((-1 : Int) : Rat) / wq] = V' at hdn frd evd ld2
    generalize D * wq.num.natAbs = M0 at fru frd M00 M0b
    let N0 := 2 ^ (5 * TT)
    let fu : Rat → Rat := fun x => (x - lo) / wq
    let fd' : Rat → Rat := fun x => (hi - x) / wq
    refine gn_par_two2 ?_
    refine ⟨_, rfl, n, rfl, by omega, fun wy H14 s14 hwy => ?_⟩
    refine ⟨(by show 2 ≤ sizeLine; decide), fun o1 no1 => ?_⟩
    have eo1 : upd H14 o1 (HO.tup [V.int 1, V.int 1]) o1 = some (HO.tup [V.int 1, V.int 1]) := upd_same
    have s15 : Same H14 (upd H14 o1 (HO.tup [V.int 1, V.int 1])) := same_upd no1
    try dsimp only [tNil] at no1 ⊢
    generalize upd H14 o1 (HO.tup [V.int 1, V.int 1]) = H15 at eo1 s15 ⊢
    refine ⟨(by show 1 ≤ sizeLine; decide), fun o2 no2 => ?_⟩
    have eo2 : upd H15 o2 (HO.lst [V.ref o1]) o2 = some (HO.lst ([o1].map V.ref)) := upd_same
    have s16 : Same H15 (upd H15 o2 (HO.lst [V.ref o1])) := same_upd no2
    try dsimp only [tNil] at no2 ⊢
    generalize upd H15 o2 (HO.lst [V.ref o1]) = H16 at eo2 s16 ⊢
    have ho2 : RL H16 o2 [(1 : Rat)] := ⟨[o1], eo2, .cons (s16 _ _ eo1) .nil⟩
    refine ⟨(by show 1 ≤ sizeLine; decide), fun us nus => ?_⟩
    have eus : upd H16 us (HO.lst [V.ref o2]) us = some (HO.lst ([o2].map V.ref)) := upd_same
    have s17 : Same H16 (upd H16 us (HO.lst [V.ref o2])) := same_upd nus
    have o2us : o2 ≠ us := ne_of_none eo2 nus
    try dsimp only [tNil] at nus ⊢
    generalize upd H16 us (HO.lst [V.ref o2]) = H17 at eus s17 ⊢
    have pus : Pws fu M0 (32 * N0) H17 us 1 := ⟨[o2], eus, rfl, fun i a g => by
      cases i with
      | zero => cases g; exact ⟨o2us, _, ho2.same s17, PWr.zero _ _ _⟩
      | succ i => cases g⟩
    have s1317 := s14.trans (s15.trans (s16.trans s17))
    have sH17 := sH13.trans s1317
    have usN : H13 us = none := by
      cases e : H13 us with
      | none => rfl
      | some o => rw [s16 _ _ (s15 _ _ (s14 _ _ e))] at nus; cases nus
    have wyus : wy ≠ us := ne_of_none (s16 _ _ (s15 _ _ hwy)) nus
    have hwy17 := ((hwy.same s15).same s16).same s17
    clear no1 no2 nus
    have n40 : ∀ k, k ≤ n → (M0 ^ k * M0 < 2 ^ 4300 ∧ 41 * ((32 * N0) ^ k * N0) < 2 ^ 4300) := fun k hk => by
      have a1 : M0 ^ k ≤ 2 ^ (76 * 15) := Nat.le_trans (Nat.pow_le_pow_left (Nat.le_trans M0b (pw (show 5 * TT + 1 ≤ 76 by omega))) k) (by rw [← Nat.pow_mul]; exact pw (Nat.mul_le_mul_left _ (by omega)))
      have a2 : 32 * N0 ≤ 2 ^ 80 := by
        show 32 * 2 ^ (5 * TT) ≤ _
        rw [show (32 : Nat) = 2 ^ 5 from rfl, ← Nat.pow_add]
        exact pw (by omega)
      have a3 : (32 * N0) ^ k ≤ 2 ^ (80 * 15) := Nat.le_trans (Nat.pow_le_pow_left a2 k) (by rw [← Nat.pow_mul]; exact pw (Nat.mul_le_mul_left _ (by omega)))
      refine ⟨Nat.lt_of_le_of_lt (Nat.mul_le_mul a1 (Nat.le_trans M0b (pw (show 5 * TT + 1 ≤ 76 by omega)))) (by rw [← Nat.pow_add]; exact Nat.pow_lt_pow_right (by decide) (by decide)), Nat.lt_of_le_of_lt (Nat.mul_le_mul (show 41 ≤ 2 ^ 6 by decide) (Nat.mul_le_mul a3 (show N0 ≤ 2 ^ 75 from pw (by omega)))) (by rw [← Nat.pow_add, ← Nat.pow_add]; exact Nat.pow_lt_pow_right (by decide) (by decide))⟩
    have N00 : 0 < N0 := Nat.pow_pos (by decide)
    -- the powers of the rising line
    refine ⟨_, rfl, _, rfl, by omega, by omega, for_range (lo := 0) (n := ((n : Nat) : Int).toNat) (fun k σ H18 => ∃ v10 : Option V, σ = [some (.ref l), some (.ref r1), some (.ref r2), some (.int (n : Int)), some (.ref f0), some (.ref wr), some (.ref up), some (.ref dn), some (.ref wy), some (.ref us), v10, none, none, none] ∧ (∀ c o, H13 c = some o → H18 c = some o) ∧ RI H18 wy (tabI (n + 1) fun k => ((ch n k : Nat) : Int)) ∧ Pws fu M0 (32 * N0) H18 us (k + 1)) ⟨none, rfl, s1317, hwy17, pus⟩ ?_ ?_⟩
    · rintro k σ H18 hk ⟨v10, rfl, sm, hwy18, pu⟩
      rw [Int.toNat_natCast] at hk
      obtain ⟨as, a, P, e1, la, g, ne, hP, hw⟩ := pu.at (i := k) (by omega)
      have hup18 : RL H18 up U := by
        obtain ⟨q1, q2, q3⟩ := hup13
        exact ⟨q1, sm _ _ q2, q3.same sm⟩
      obtain ⟨c1, c2⟩ := n40 k (by omega)
      have gl : atI (as.map V.ref) (-1) = some (V.ref a) := by
        have e : as.map V.ref = (as.take k).map V.ref ++ [V.ref a] := by
          refine List.ext_getElem? fun i => ?_
          rw [List.getElem?_map]
          by_cases h1 : i < k
          · rw [List.getElem?_append_left (by rw [List.length_map, List.length_take]; omega), List.getElem?_map, List.getElem?_take, if_pos h1]
          · rw [List.getElem?_append_right (by rw [List.length_map, List.length_take]; omega), List.length_map, List.length_take]
            by_cases h2 : i = k
            · subst h2; rw [g, show i - min i as.length = 0 by omega]; rfl
            · rw [List.getElem?_eq_none_iff.mpr (show as.length ≤ i by omega), List.getElem?_eq_none_iff.mpr (by show 1 ≤ _; omega)]; rfl
        rw [e]
        exact atI_last _ _
      refine ⟨_, rfl, .inl ⟨rfl, _, SqL.of e1⟩, _, rfl, _, rfl, us, _, _, _, rfl, rfl, SqL.of e1, gl, _, rfl, ?_⟩
      refine ⟨a, up, P, U, M0 ^ k, (32 * N0) ^ k, M0, N0, rfl, hP, hup18, by have := hw.len; omega, by omega, Nat.pow_pos M00, M00, Nat.pow_pos (by omega), N00, hw.fr, fru, c1, c2, fun nl H19 s19 hnl => ?_⟩
      refine ⟨us, _, _, rfl, rfl, s19 _ _ e1, (by rw [List.length_map, la, sizeLine_eq]; omega), ?_⟩
      have nlus : nl ≠ us := fun z => by
        rw [z] at hnl
        exact (pu.same s19).not_row hnl
      refine ⟨_, rfl, fun c o e => ?_, ?_, (pu.same s19).snoc (s19 _ _ e1) hnl (hw.next lu2 fru rfl evu (by omega)) nlus⟩
      · rw [upd_ne (fun z => by rw [z, usN] at e; cases e)]
        exact s19 _ _ (sm _ _ e)
      · show upd H19 us _ wy = _
        rw [upd_ne wyus]
        exact s19 _ _ hwy18
    · rintro σ H18 ⟨v10, rfl, sm, hwy18, pu⟩
      rw [Int.toNat_natCast] at pu
      refine ⟨(by show 2 ≤ sizeLine; decide), fun p1 np1 => ?_⟩
      have ep1 : upd H18 p1 (HO.tup [V.int 1, V.int 1]) p1 = some (HO.tup [V.int 1, V.int 1]) := upd_same
      have s19 : Same H18 (upd H18 p1 (HO.tup [V.int 1, V.int 1])) := same_upd np1
      try dsimp only [tNil] at np1 ⊢
      generalize upd H18 p1 (HO.tup [V.int 1, V.int 1]) = H19 at ep1 s19 ⊢
      refine ⟨(by show 1 ≤ sizeLine; decide), fun p2 np2 => ?_⟩
      have ep2 : upd H19 p2 (HO.lst [V.ref p1]) p2 = some (HO.lst ([p1].map V.ref)) := upd_same
      have s20 : Same H19 (upd H19 p2 (HO.lst [V.ref p1])) := same_upd np2
      try dsimp only [tNil] at np2 ⊢
      generalize upd H19 p2 (HO.lst [V.ref p1]) = H20 at ep2 s20 ⊢
      have hp2 : RL H20 p2 [(1 : Rat)] := ⟨[p1], ep2, .cons (s20 _ _ ep1) .nil⟩
      refine ⟨(by show 1 ≤ sizeLine; decide), fun ds nds => ?_⟩
      have eds : upd H20 ds (HO.lst [V.ref p2]) ds = some (HO.lst ([p2].map V.ref)) := upd_same
      have s21 : Same H20 (upd H20 ds (HO.lst [V.ref p2])) := same_upd nds
      have p2ds : p2 ≠ ds := ne_of_none ep2 nds
      try dsimp only [tNil] at nds ⊢
      generalize upd H20 ds (HO.lst [V.ref p2]) = H21 at eds s21 ⊢
      have pds : Pws fd' M0 (32 * N0) H21 ds 1 := ⟨[p2], eds, rfl, fun i a g => by
        cases i with
        | zero => cases g; exact ⟨p2ds, _, hp2.same s21, PWr.zero _ _ _⟩
        | succ i => cases g⟩
      have s1821 := s19.trans (s20.trans s21)
      have dsN : H18 ds = none := by
        cases e : H18 ds with
        | none => rfl
        | some o => rw [s20 _ _ (s19 _ _ e)] at nds; cases nds
      have pu21 := pu.same s1821
      have hwy21 := s1821 _ _ hwy18
      have sm21 : ∀ c o, H13 c = some o → H21 c = some o := fun c o e => s1821 _ _ (sm _ _ e)
      clear np1 np2 nds
      refine ⟨_, rfl, _, rfl, by omega, by omega, for_range (lo := 0) (n := ((n : Nat) : Int).toNat) (fun k σ H22 => ∃ v10 : Option V, σ = [some (.ref l), some (.ref r1), some (.ref r2), some (.int (n : Int)), some (.ref f0), some (.ref wr), some (.ref up), some (.ref dn), some (.ref wy), some (.ref us), v10, some (.ref ds), none, none] ∧ (∀ c o, H18 c = some o → H22 c = some o) ∧ Pws fd' M0 (32 * N0) H22 ds (k + 1)) ⟨_, rfl, s1821, pds⟩ ?_ ?_⟩
      · rintro k σ H22 hk ⟨v10, rfl, sm2, pd⟩
        rw [Int.toNat_natCast] at hk
        obtain ⟨as, a, P, e1, la, g, ne, hP, hw⟩ := pd.at (i := k) (by omega)
        have hdn22 : RL H22 dn V' := by
          obtain ⟨q1, q2, q3⟩ := hdn
          exact ⟨q1, sm2 _ _ (sm _ _ q2), (q3.same sm).same sm2⟩
        obtain ⟨c1, c2⟩ := n40 k (by omega)
        have gl : atI (as.map V.ref) (-1) = some (V.ref a) := by
          have e : as.map V.ref = (as.take k).map V.ref ++ [V.ref a] := by
            refine List.ext_getElem? fun i => ?_
            rw [List.getElem?_map]
            by_cases h1 : i < k
            · rw [List.getElem?_append_left (by rw [List.length_map, List.length_take]; omega), List.getElem?_map, List.getElem?_take, if_pos h1]
            · rw [List.getElem?_append_right (by rw [List.length_map, List.length_take]; omega), List.length_map, List.length_take]
              by_cases h2 : i = k
              · subst h2; rw [g, show i - min i as.length = 0 by omega]; rfl
              · rw [List.getElem?_eq_none_iff.mpr (show as.length ≤ i by omega), List.getElem?_eq_none_iff.mpr (by show 1 ≤ _; omega)]; rfl
          rw [e]
          exact atI_last _ _
        refine ⟨_, rfl, .inl ⟨rfl, _, SqL.of e1⟩, _, rfl, _, rfl, ds, _, _, _, rfl, rfl, SqL.of e1, gl, _, rfl, ?_⟩
        refine ⟨a, dn, P, V', M0 ^ k, (32 * N0) ^ k, M0, N0, rfl, hP, hdn22, by have := hw.len; omega, by omega, Nat.pow_pos M00, M00, Nat.pow_pos (by omega), N00, hw.fr, frd, c1, c2, fun nl H23 s23 hnl => ?_⟩
        refine ⟨ds, _, _, rfl, rfl, s23 _ _ e1, (by rw [List.length_map, la, sizeLine_eq]; omega), ?_⟩
        have nlds : nl ≠ ds := fun z => by
          rw [z] at hnl
          exact (pd.same s23).not_row hnl
        refine ⟨_, rfl, fun c o e => ?_, (pd.same s23).snoc (s23 _ _ e1) hnl (hw.next ld2 frd rfl evd (by omega)) nlds⟩
        rw [upd_ne (fun z => by rw [z, dsN] at e; cases e)]
        exact s23 _ _ (sm2 _ _ e)
      · rintro σ H22 ⟨v10, rfl, sm2, pd⟩
        rw [Int.toNat_natCast] at pd
        have sm22 : ∀ c o, H13 c = some o → H22 c = some o := fun c o e => sm2 _ _ (sm _ _ e)
        have pu22 : Pws fu M0 (32 * N0) H22 us (n + 1) := by
          obtain ⟨as, e, la, z⟩ := pu
          exact ⟨as, sm2 _ _ e, la, fun i a g => ⟨(z i a g).1, (z i a g).2.imp fun P w => ⟨w.1.same sm2, w.2⟩⟩⟩
        have hwy22 : RI H22 wy (tabI (n + 1) fun k => ((ch n k : Nat) : Int)) := sm2 _ _ hwy18
        have el22 := sm22 _ _ el13
        have tl22 := tl13.same sm22
        have ef22 : RL H22 f0 [] := ⟨[], sm22 _ _ ef13, .nil⟩
        -- the sum
        let tm : Rat → Nat → Rat := fun x k => cf row k * (ch n k : Rat) * fu x ^ k * fd' x ^ (n - k)
        let MM := M0 ^ n * L
        let NN := 32 * (32 * N0) ^ n * (Nr * 2 ^ 15)
        refine ⟨_, rfl, _, _, rfl, rfl, _, rfl, by omega, by omega, for_range (lo := 0) (n := ((n : Int) + 1).toNat) (fun k σ H23 => ∃ (fl : Addr) (qs : List Rat) (v12 v13 : Option V), σ = [some (.ref l), some (.ref r1), some (.ref r2), some (.int (n : Int)), some (.ref fl), some (.ref wr), some (.ref up), some (.ref dn), some (.ref wy), some (.ref us), v10, some (.ref ds), v12, v13] ∧ Same H22 H23 ∧ RL H23 fl qs ∧ stripQ qs = qs ∧ qs.length ≤ n + 1 ∧ (∀ i, Fr MM (k * NN) (cf qs i)) ∧ ∀ x, ev qs x = Vf.sm (tm x) k) ⟨f0, [], none, none, rfl, Same.refl _, ef22, rfl, by show 0 ≤ _; omega, fun i => by rw [cf_nil]; exact Fr.zero _ _, fun x => rfl⟩ ?_ ?_⟩
        · rintro k σ H23 hk ⟨fl, qs, v12, v13, rfl, s23, hfl, sq, lq, fq, eq⟩
          have hkn : k ≤ n := by omega
          obtain ⟨as, a, P, e1, la, g1, ne, hP, hw⟩ := (pu22.same s23).at (i := k) (by omega)
          obtain ⟨bs, b, R, e2, lb, g2, ne2, hR, hw2⟩ := (pd.same s23).at (i := n - k) (by omega)
          have pwn : M0 ^ k * M0 ^ (n - k) = M0 ^ n := by rw [← Nat.pow_add, show k + (n - k) = n by omega]
          have pwN : (32 * N0) ^ k * (32 * N0) ^ (n - k) = (32 * N0) ^ n := by rw [← Nat.pow_add, show k + (n - k) = n by omega]
          have a2 : 32 * N0 ≤ 2 ^ 80 := by
            show 32 * 2 ^ (5 * TT) ≤ _
            rw [show (32 : Nat) = 2 ^ 5 from rfl, ← Nat.pow_add]
            exact pw (by omega)
          have a3 : (32 * N0) ^ n ≤ 2 ^ (80 * 15) := Nat.le_trans (Nat.pow_le_pow_left a2 n) (by rw [← Nat.pow_mul]; exact pw (Nat.mul_le_mul_left _ (by omega)))
          have a1 : M0 ^ n ≤ 2 ^ (76 * 15) := Nat.le_trans (Nat.pow_le_pow_left (Nat.le_trans M0b (pw (show 5 * TT + 1 ≤ 76 by omega))) n) (by rw [← Nat.pow_mul]; exact pw (Nat.mul_le_mul_left _ (by omega)))
          have lt19 : ∀ {z j : Nat}, z ≤ 2 ^ j → j < 4300 → z < 2 ^ 4300 := fun h hj => Nat.lt_of_le_of_lt h (Nat.pow_lt_pow_right (by decide) hj)
          have MMb : MM ≤ 2 ^ (76 * 15 + 1010) := by
            rw [Nat.pow_add]
            exact Nat.mul_le_mul a1 Lb
          have NNb : 16 * NN ≤ 2 ^ (4 + (5 + 80 * 15 + (2725 + 15))) := by
            rw [Nat.pow_add, Nat.pow_add, Nat.pow_add, Nat.pow_add 2 2725]
            exact Nat.mul_le_mul_left _ (Nat.mul_le_mul (Nat.mul_le_mul_left _ a3) (Nat.mul_le_mul_right _ Nrb))
          have MM0 : 0 < MM := Nat.mul_pos (Nat.pow_pos M00) L0
          refine ⟨_, rfl, _, rfl, us, _, _, _, rfl, rfl, SqL.of e1, at_of (j := k) (by omega) (by rw [List.getElem?_map, g1]; rfl), _, rfl, _, rfl, _, rfl, _, _, rfl, rfl, ds, _, _, _, rfl, rfl, SqL.of e2, at_of (j := n - k) (by omega) (by rw [List.getElem?_map, g2]; rfl), ?_⟩
          refine ⟨a, b, P, R, M0 ^ k, (32 * N0) ^ k, M0 ^ (n - k), (32 * N0) ^ (n - k), rfl, hP, hR, by have := hw.len; omega, by have := hw2.len; omega, Nat.pow_pos M00, Nat.pow_pos M00, Nat.pow_pos (by omega), Nat.pow_pos (by omega), hw.fr, hw2.fr, by rw [pwn]; exact lt19 a1 (by decide), by rw [pwN]; exact lt19 (j := 6 + 80 * 15) (by rw [Nat.pow_add]; exact Nat.mul_le_mul (by decide) a3) (by decide), fun pl H24 s24 hpl => ?_⟩
          have hS : (stripQ (pmul P R)).length ≤ n + 1 := by
            have z1 := stripQ_le (pmul P R)
            rw [pmul_len] at z1
            have := hw.len
            have := hw2.len
            omega
          have fpart : ∀ i, Fr (M0 ^ n) (32 * (32 * N0) ^ n) (cf (stripQ (pmul P R)) i) := fun i => by
            rw [cf_stripQ]
            have z := pmul_fr hw.fr hw2.fr (by have := hw.len; have := hw2.len; omega) i
            rw [pwn, pwN] at z
            exact z
          have evp : ∀ x, ev (stripQ (pmul P R)) x = fu x ^ k * fd' x ^ (n - k) := fun x => by rw [ev_stripQ, ev_pmul, hw.vl, hw2.vl]
          generalize stripQ (pmul P R) = W at hpl hS fpart evp
          obtain ⟨ra, ga, hra⟩ := ((tl22.same s23).same s24).getQ (i := k) (by omega)
          have el24 := s24 _ _ (s23 _ _ el22)
          have hwy24 := (hwy22.same s23).same s24
          refine ⟨_, rfl, _, rfl, _, rfl, _, rfl, l, _, _, _, rfl, rfl, SqL.of el24, at_of (j := k) (by omega) (by rw [List.getElem?_map, ga]; rfl), _, rfl, _, rfl, wy, _, _, .int ((ch n k : Nat) : Int), rfl, rfl, hwy24.sq, at_of (j := k) (by omega) (by rw [List.getElem?_map, ci_lt (by rw [tabI_len]; omega), ci_tab, if_pos (by omega)]; rfl), (by show 2 ≤ sizeLine; decide), fun t nt => ?_⟩
          have et : upd H24 t (HO.tup [V.int ((ch n k : Nat) : Int), V.int 1]) t = some (HO.tup [V.int ((ch n k : Nat) : Int), V.int 1]) := upd_same
          have s25 : Same H24 (upd H24 t (HO.tup [V.int ((ch n k : Nat) : Int), V.int 1])) := same_upd nt
          try dsimp only [tNil] at nt ⊢
          generalize upd H24 t (HO.tup [V.int ((ch n k : Nat) : Int), V.int 1]) = H25 at et s25 ⊢
          have cb : ch n k ≤ 2 ^ 15 := Nat.le_trans (ch_le n k) (pw n9)
          have src : Sr ((((ch n k : Nat) : Int) : Rat)) := sr_of (k := 15) (by rw [Rat.num_intCast, Int.natAbs_natCast]; exact cb) (by rw [Rat.den_intCast]; decide) (by decide)
          have srr : Sr (cf row k) := (hF k).sr L0 (lt19 Lb (by decide)) (lt19 Nrb (by decide))
          refine ⟨ra, t, cf row k, (((ch n k : Nat) : Int) : Rat), rfl, hra.same s25, tr_int et, srr, src, fun r5 H26 s26 nr5 hr5 => ?_⟩
          have fc : Fr L (Nr * 2 ^ 15) (cf row k * (((ch n k : Nat) : Int) : Rat)) := by
            have z : Fr 1 (2 ^ 15) ((((ch n k : Nat) : Int) : Rat)) := ⟨((ch n k : Nat) : Int), by rw [show ((1 : Nat) : Rat) = 1 from rfl]; grind, by rw [Int.natAbs_natCast]; exact cb⟩
            have z2 := (hF k).mul z
            rw [Nat.mul_one] at z2
            exact z2
          have hr5' : TR H26 r5 (cf row k * (((ch n k : Nat) : Int) : Rat)) := hr5
          have hpl26 := (hpl.same s25).same s26
          refine ⟨pl, r5, W, _, rfl, hpl26, hr5', by omega, fun i => (fpart i).sr (Nat.pow_pos M00) (lt19 a1 (by decide)) (lt19 (j := 5 + 80 * 15) (by rw [Nat.pow_add]; exact Nat.mul_le_mul_left _ a3) (by decide)), fc.sr L0 (lt19 Lb (by decide)) (lt19 (j := 2725 + 15) (by rw [Nat.pow_add]; exact Nat.mul_le_mul_right _ Nrb) (by decide)), fun sl H27 s27 hsl => ?_⟩
          have fsc : ∀ i, Fr MM NN (cf (stripQ (pscale W (cf row k * (((ch n k : Nat) : Int) : Rat)))) i) := fun i => by
            rw [cf_stripQ, cf_pscale]
            exact (fpart i).mul fc
          have lsc : (stripQ (pscale W (cf row k * (((ch n k : Nat) : Int) : Rat)))).length ≤ n + 1 := by
            refine Nat.le_trans (stripQ_le _) ?_
            unfold pscale
            rw [List.length_map]
            exact hS
          have hfl27 := (((hfl.same s24).same s25).same s26).same s27
          have NNb1 : NN ≤ 2 ^ (4 + (5 + 80 * 15 + (2725 + 15))) := by omega
          have kNN : k * NN ≤ 2 ^ (4 + (5 + 80 * 15 + (2725 + 15))) := Nat.le_trans (Nat.mul_le_mul_right _ (show k ≤ 16 by omega)) NNb
          refine ⟨fl, sl, qs, _, rfl, hfl27, hsl, by omega, by omega, fun i => (fq i).sr MM0 (lt19 MMb (by decide)) (lt19 kNN (by decide)), fun i => (fsc i).sr MM0 (lt19 MMb (by decide)) (lt19 NNb1 (by decide)), fun nl H28 s28' hnl => ?_⟩
          refine ⟨nl, _, _, _, rfl, s23.trans (s24.trans (s25.trans (s26.trans (s27.trans s28')))), hnl, stripQ_id (stripQ_stp _), ?_, fun i => ?_, fun x => ?_⟩
          · refine Nat.le_trans (stripQ_le _) ?_
            unfold padd
            rw [tab_len]
            omega
          · rw [cf_stripQ, cf_padd, Nat.succ_mul]
            exact (fq i).add (fsc i)
          · rw [ev_stripQ, ev_padd, eq, ev_stripQ, ev_pscale, evp]
            show _ = Vf.sm (tm x) k + cf row k * (ch n k : Rat) * fu x ^ k * fd' x ^ (n - k)
            rw [show ((((ch n k : Nat) : Int) : Rat)) = ((ch n k : Nat) : Rat) from rfl]
            grind
        · rintro σ H23 ⟨fl, qs, v12, v13, rfl, s23, hfl, sq, lq, fq, eq⟩
          have e1 : ((n : Int) + 1).toNat = n + 1 := by omega
          rw [e1] at fq eq
          refine ⟨_, rfl, q fl qs MM ((n + 1) * NN) H23 (fun c o e => s23 _ _ (sm22 _ _ (sH13 _ _ e))) hfl sq (by omega) (Nat.mul_pos (Nat.pow_pos M00) L0) ?_ ?_ fq fun x => ?_⟩
          · refine Nat.mul_le_mul_right _ ?_
            refine Nat.le_trans (Nat.pow_le_pow_left M0b n) ?_
            rw [← Nat.pow_mul]
            exact pw (Nat.mul_le_mul_left _ n9)
          · have a2 : 32 * N0 ≤ 2 ^ (5 * TT + 5) := by
              show 32 * 2 ^ (5 * TT) ≤ _
              rw [show (32 : Nat) = 2 ^ 5 from rfl, ← Nat.pow_add]
              exact pw (by omega)
            have a3 : (32 * N0) ^ n ≤ 2 ^ ((5 * TT + 5) * 15) := Nat.le_trans (Nat.pow_le_pow_left a2 n) (by rw [← Nat.pow_mul]; exact pw (Nat.mul_le_mul_left _ n9))
            show (n + 1) * (32 * (32 * N0) ^ n * (Nr * 2 ^ 15)) ≤ _
            have a4 : (n + 1) * (32 * (32 * N0) ^ n * (Nr * 2 ^ 15)) ≤ 2 ^ 4 * (32 * 2 ^ ((5 * TT + 5) * 15) * (Nr * 2 ^ 15)) := Nat.mul_le_mul (by show n + 1 ≤ 16; omega) (Nat.mul_le_mul_right _ (Nat.mul_le_mul_left _ a3))
            refine Nat.le_trans a4 ?_
            have a5 : 2 ^ 4 * (32 * 2 ^ ((5 * TT + 5) * 15) * (Nr * 2 ^ 15)) = 2 ^ (4 + 5 + (5 * TT + 5) * 15 + 15) * Nr := by
              rw [Nat.pow_add 2 (4 + 5 + (5 * TT + 5) * 15) 15, Nat.pow_add 2 (4 + 5) ((5 * TT + 5) * 15), Nat.pow_add 2 4 5, show (2 : Nat) ^ 5 = 32 from rfl]
              generalize 2 ^ ((5 * TT + 5) * 15) = y
              generalize (2 : Nat) ^ 4 = y4
              generalize (2 : Nat) ^ 15 = y9
              simp only [Nat.mul_assoc, Nat.mul_comm, Nat.mul_left_comm]
            rw [a5]
            exact Nat.mul_le_mul_right _ (pw (by omega))
          · rw [eq, ← bn_sum, hn]
end

end Vf

set_option maxRecDepth 100000
set_option maxHeartbeats 8000000
namespace Vf
open PySem PySem.Spec PyProof.Rows L2
/-! ### intervals -/
section
variable {P : Program} {w : World} {K : PySem.W.Frag} {mg : Str → Option Value} {base : Heap} {CP CR CN CI : Addr}
theorem bq_of {t b : Int} {q : Rat} {m : Int} (e : (t, b) = pq q) (h1 : (t.natAbs : Int) ≤ m * 99) (h2 : b.natAbs ≤ 99) (hm : m ≤ 50) : BqQ q ∧ q.num.natAbs ≤ 4950 ∧ q.den ≤ 99 := by
  have et : t = q.num := congrArg Prod.fst e
  have eb : b = (q.den : Int) := congrArg Prod.snd e
  rw [et] at h1
  rw [eb, Int.natAbs_natCast] at h2
  refine ⟨⟨?_, ?_⟩, ?_, h2⟩
  · show q.num.natAbs ≤ 32768
    omega
  · show q.den ≤ 512
    omega
  · omega
abbrev sIv : Stmt := topS 57
theorem scIv : FnScope ["_law_pen_here", "_law_most", "_law_one", "_law_two"] ["_law_pen_here", "_law_most"] (defScope sIv) := ⟨rfl, rfl, rfl, by decide +kernel, rfl, by decide +kernel, by decide +kernel⟩
theorem ok_iv {f : Addr} {fd : FuncData} (F : Fun K "_law_interval" "_law_interval" sIv f fd) (hm1 : M1 base) (G__law_ratio : Df P w K mg base "_law_ratio" 3 ["_law_pen_here", "_law_most"] spRatio) (G__law_draw : Df P w K mg base "_law_draw" 1 ["_law_pen_here", "_law_many"] spDraw) (G__law_plus : Df P w K mg base "_law_plus" 3 ["_law_one", "_law_two"] (spL2 rAdd)) (G__law_less : Df P w K mg base "_law_less" 1 ["_law_one", "_law_two"] spLess) :
    FnOk P w K mg base CX0 4 f fd ["_law_pen_here", "_law_most"] spIv := by
  refine F.ok scIv (fun vs H Q E h => ?_) (fun cdv A outer s H vs Q E hr h => ?_)
  · obtain ⟨p, lc, B, m, rfl, _⟩ := h
    rfl
  · obtain ⟨p, lc, B, m, rfl, hm0, hm50, hP, hB, q⟩ := h
    refine ⟨_, (pss_cons (ps_par (i := 2) (j := 3) (by rfl) scIv.nd rfl rfl (by decide) rfl rfl (pa_cons (pe_call G__law_ratio.ok (hr.mono (by decide)) rfl G__law_ratio.m G__law_ratio.kp G__law_ratio.b .nil pass0 (pa_cons (pv 0) (pa_cons (pv 1) pa_nil))) (pa_cons (pe_call G__law_ratio.ok (hr.mono (by decide)) rfl G__law_ratio.m G__law_ratio.kp G__law_ratio.b .nil pass0 (pa_cons (pv 0) (pa_cons (pv 1) pa_nil))) pa_nil)) (by rfl))
  (pss_cons (ps_if (pt_cmpR (op_eqT hr.units hm1) (pv 2) (pv 3) (nomark _))
    (pss_one (ps_set (i := 3) scIv.nd rfl (Or.inl rfl) (pe_call G__law_plus.ok (hr.mono (by decide)) rfl G__law_plus.m G__law_plus.kp G__law_plus.b .nil pass0 (pa_cons (pv 2) (pa_cons (pe_tup (pa_cons pe_int (pa_cons (pe_op op_add pe_int (pe_call G__law_draw.ok (hr.mono (by decide)) rfl G__law_draw.m G__law_draw.kp G__law_draw.b .nil pass0 (pa_cons (pv 0) (pa_cons pe_int pa_nil)))) pa_nil))) pa_nil)))))
    pss_nil)
  (pss_one (ps_ret (pe_ifExp (pt_val (pe_call G__law_less.ok (hr.mono (by decide)) rfl G__law_less.m G__law_less.kp G__law_less.b .nil pass0 (pa_cons (pv 2) (pa_cons (pv 3) pa_nil)))) (pe_tup (pa_cons (pv 2) (pa_cons (pv 3) pa_nil))) (pe_tup (pa_cons (pv 3) (pa_cons (pv 2) pa_nil)))))))), ?_⟩
    refine par_two ?_
    refine ⟨_, rfl, _, rfl, p, lc, _, m, rfl, by omega, by omega, hP, by omega, fun a1 u1 b1 G1 hP1 k1 f1 lw1 zt1 zb1 => ?_⟩
    refine ⟨_, rfl, _, rfl, p, lc, _, m, rfl, by omega, by omega, hP1, by omega, fun a2 u2 b2 G2 hP2 k2 f2 lw2 zt2 zb2 => ?_⟩
    obtain ⟨q1, e1⟩ := low_is_pq (p := (u1, b1)) lw1
    obtain ⟨q2, e2⟩ := low_is_pq (p := (u2, b2)) lw2
    obtain ⟨bq1, n1, d1⟩ := bq_of e1 zt1 zb1 hm50
    obtain ⟨bq2, n2, d2⟩ := bq_of e2 zt2 zb2 hm50
    have h1 : TR G1 a1 q1 := by
      show G1 a1 = some (.tup [.int (pq q1).1, .int (pq q1).2])
      rw [← e1]; exact f1
    have h2 : TR G2 a2 q2 := by
      show G2 a2 = some (.tup [.int (pq q2).1, .int (pq q2).2])
      rw [← e2]; exact f2
    obtain ⟨_, _, _, _, _, gp1, _⟩ := id hP1
    have p1 : a1 ≠ p := ne_of f1 gp1.1 (by intro z; cases z)
    have h1' : TR G2 a1 q1 := k2 _ _ p1 h1
    have dtr : ∀ {H : Hp} {r : Addr} {x : Rat}, TR H r x → Dt K H (.ref r) (pairD (pq x)) := fun h => .tup (SqT.of h) (.cons (.int _) (.cons (.int _) .nil))
    have srb : ∀ {x : Rat}, BqQ x → Sr x := fun h => sr_of (k := 15) h.1 (Nat.le_trans h.2 (by decide)) (by decide)
    have fin : ∀ (a2 : Addr) (q2 : Rat) (G2 : Hp), TR G2 a1 q1 → TR G2 a2 q2 → BqQ q2 → q1 ≠ q2 → Pen G2 p lc (B + 10) → Kp p H G2 → ∀ (D : Ends) (D2 : D.rt = Q), True := fun _ _ _ _ _ _ _ _ _ _ _ => trivial
    refine ⟨_, rfl, _, rfl, pairD (pq q1), pairD (pq q2), dtr h1', dtr h2, by rfl, by rfl, (by simp [pairD, PyData.depth, PyData.depthAll]), _, rfl, ?_⟩
    rw [eqv_pair]
    by_cases eq : q1 = q2
    · rw [decide_eq_true (by rw [eq])]
      refine iteT ?_
      subst eq
      refine ⟨_, rfl, _, rfl, p, lc, _, 4, rfl, hP2, by omega, by decide, by decide, fun z G3 z0 z1 hP3 k3 => ?_⟩
      refine ⟨_, _, rfl, rfl, (by show 2 ≤ sizeLine; decide), fun t nt => ?_⟩
      have et : upd G3 t (HO.tup [V.int 1, V.int (1 + z)]) t = some (HO.tup [V.int 1, V.int (1 + z)]) := upd_same
      have s3 : Same G3 (upd G3 t (HO.tup [V.int 1, V.int (1 + z)])) := same_upd nt
      try dsimp only [tNil] at nt ⊢
      generalize upd G3 t (HO.tup [V.int 1, V.int (1 + z)]) = G4 at et s3 ⊢
      let iv : Rat := ⟨1, (1 + z).toNat, by omega, Nat.gcd_one_left _⟩
      have hiv : TR G4 t iv := by
        show G4 t = some (.tup [.int 1, .int (((1 + z).toNat : Nat) : Int)])
        rw [Int.toNat_of_nonneg (by omega)]
        exact et
      have siv : Sr iv := sr_of (k := 3) (show (1 : Nat) ≤ 8 by decide) (show (1 + z).toNat ≤ 8 by omega) (by decide)
      have h1'' : TR G4 a1 q1 := s3 _ _ (k3 _ _ p1 h1')
      refine ⟨a1, t, q1, iv, rfl, h1'', hiv, srb bq1, siv, fun r G5 s5 nr hr5 => ?_⟩
      have hr5' : TR G5 r (q1 + iv) := hr5
      have i0 : 0 < iv := by
        have := num_den iv
        have e1 : ((iv.num : Int) : Rat) = 1 := rfl
        rw [e1] at this
        have d0 : (0 : Rat) < (iv.den : Rat) := by
          have := iv.den_pos
          exact_mod_cast this
        refine Decidable.byContradiction fun n => ?_
        have := Rat.mul_nonneg (show 0 ≤ -iv by grind) (Rat.le_of_lt d0)
        grind
      have bq3 : BqQ (q1 + iv) := by
        have e := low_add q1 iv
        have dd := q1.den_pos
        obtain ⟨s1, s2⟩ := low_size (t := q1.num * iv.den + iv.num * q1.den) (b := (q1.den : Int) * iv.den) (Int.mul_ne_zero (by omega) (by have := iv.den_pos; omega))
        rw [e] at s1 s2
        have s1 : (q1 + iv).num.natAbs ≤ (q1.num * (iv.den : Int) + iv.num * (q1.den : Int)).natAbs := s1
        have s2 : ((q1 + iv).den : Int).natAbs ≤ ((q1.den : Int) * (iv.den : Int)).natAbs := s2
        have iz : iv.den ≤ 4 := (show (1 + z).toNat ≤ 4 by omega)
        have in1 : iv.num = 1 := rfl
        have m1 : (q1.num * (iv.den : Int)).natAbs ≤ 4950 * 4 := by rw [Int.natAbs_mul, Int.natAbs_natCast]; exact Nat.mul_le_mul n1 iz
        have m2 : ((q1.den : Int) * (iv.den : Int)).natAbs ≤ 99 * 4 := by rw [Int.natAbs_mul, Int.natAbs_natCast, Int.natAbs_natCast]; exact Nat.mul_le_mul d1 iz
        have := Int.natAbs_add_le (q1.num * (iv.den : Int)) (iv.num * (q1.den : Int))
        rw [in1, Int.one_mul, Int.natAbs_natCast] at this
        rw [in1, Int.one_mul] at s1
        rw [Int.natAbs_natCast] at s2
        refine ⟨?_, ?_⟩
        · show _ ≤ 32768
          omega
        · show _ ≤ 512
          omega
      have h1r := h1''.same s5
      have hP5 := (hP3.same s3).same s5
      refine ⟨_, rfl, _, rfl, a1, r, q1, q1 + iv, rfl, h1r, hr5', srb bq1, srb bq3, ?_⟩
      have lt : q1 < q1 + iv := by grind
      rw [decide_eq_true lt]
      refine ⟨true, rfl, ?_⟩
      refine iteT ?_
      refine ⟨_, rfl, _, rfl, (by show 2 ≤ sizeLine; decide), fun t2 nt2 => ?_⟩
      have s6 : Same G5 (upd G5 t2 (HO.tup [V.ref a1, V.ref r])) := same_upd nt2
      exact q t2 a1 r q1 (q1 + iv) _ ((hP5.more (by omega)).same s6) ((((k1.trans k2).trans k3).trans (Kp.of (s3.trans s5))).trans (Kp.of s6)) upd_same (hP5.ne_new nt2).1 (h1r.same s6) (hr5'.same s6) lt bq1 bq3
    · rw [decide_eq_false (fun z => eq (pq_inj z))]
      refine iteF ?_
      refine ⟨_, rfl, _, rfl, a1, a2, q1, q2, rfl, h1', h2, srb bq1, srb bq2, ?_⟩
      by_cases lt : q1 < q2
      · rw [decide_eq_true lt]
        refine ⟨true, rfl, ?_⟩
        refine iteT ?_
        refine ⟨_, rfl, _, rfl, (by show 2 ≤ sizeLine; decide), fun t nt => ?_⟩
        have s3 : Same G2 (upd G2 t (HO.tup [V.ref a1, V.ref a2])) := same_upd nt
        exact q t a1 a2 q1 q2 _ ((hP2.more (by omega)).same s3) ((k1.trans k2).trans (Kp.of s3)) upd_same (hP2.ne_new nt).1 (h1'.same s3) (h2.same s3) lt bq1 bq2
      · rw [decide_eq_false lt]
        refine ⟨false, rfl, ?_⟩
        refine iteF ?_
        refine ⟨_, rfl, _, rfl, (by show 2 ≤ sizeLine; decide), fun t nt => ?_⟩
        have s3 : Same G2 (upd G2 t (HO.tup [V.ref a2, V.ref a1])) := same_upd nt
        exact q t a2 a1 q2 q1 _ ((hP2.more (by omega)).same s3) ((k1.trans k2).trans (Kp.of s3)) upd_same (hP2.ne_new nt).1 (h2.same s3) (h1'.same s3) (by grind) bq2 bq1
end

end Vf

set_option maxRecDepth 100000
set_option maxHeartbeats 4000000
/-! a try whose first clauses, named, are looked at; clauses behind them are never come to -/
namespace Vf
open PySem PySem.Spec PyProof.Rows L2
inductive Some1 (X : Cx) (i : Nat) : List ExceptHandler → List (Value × (Addr → Value → Option Addr → TS)) → Prop
  | any (hds : List ExceptHandler) : Some1 X i hds []
  | cons {x n : Str} {c : Value} {ts : Addr → Value → Option Addr → TS} {b : Stmt} {bs : List Stmt} {p q : Pos} {hds : List ExceptHandler} {l : List (Value × (Addr → Value → Option Addr → TS))} (nm : Names X x c) (at_ : X.N[i]? = some n) (lo : X.env.kindOf n = some .local)
      (su : ∀ (a : Addr) (oe : Obj) (cls : Value) (d : Option Addr) (pn : List (Addr × Obj)), Zc cls d oe → (∃ vs, oe.data = .fields vs) → PSs (X.suite a ((a, oe) :: pn)) (b :: bs) (ts a cls d)) (t : Some1 X i hds l) :
      Some1 X i (.ExceptHandler (some (.Name x p)) (some n) (b :: bs) q :: hds) ((c, ts) :: l)
section
variable {X : Cx} {i : Nat} {body : List Stmt} {h1 : ExceptHandler} {hs : List ExceptHandler} {l : List (Value × (Addr → Value → Option Addr → TS))} {pos : Pos} {tb : WX → TS} {Wo : WX}
theorem ps_try_some (st : X.stack = X.env :: X.outer) (fr : X.env.frame = some X.env.locals) (nd : X.N.Nodup)
    (bd : ∀ (W : WX) (pn : List (Addr × Obj)) (xe : Value → Shared → Prop), Takes (X.tr pn xe) W → PassesOwn (model X.prog X.w) X.A X.env xe → PSs (X.tr pn xe) body (tb W)) (hd : Some1 X i (h1 :: hs) l) :
    PS X (.Try body (h1 :: hs) [] [] pos) (fun D σ H => tb (wEach X.K i (fun _ _ _ _ => False) D l) D σ H) := by
  refine ⟨fun pins s σ H D I h => wpAny_Try_except ?_⟩
  have ok := I.ok
  have A1 : X.A.frames = some (X.env :: X.outer) := ok.frames.trans (congrArg some st)
  have run := (bd (wEach X.K i (fun _ _ _ _ => False) D l) (X.pn ++ pins) (fun e s1 => wpAny (model X.prog X.w) X.A (noteFrame e X.env) (fun _ s2 => wpAny (model X.prog X.w) X.A (setFlight e none) (fun _ s3 => wpAny (model X.prog X.w) X.A (handleBy e X.env (h1 :: hs)) (SP X pins D) X.xe s3) X.xe s2) X.xe s1)
    (fun u s' xx => ?_) PassesOwn.looking).run [] s σ H D (I.toTry _) h
  · refine wpAny_mono run (fun f s1 z => ?_) fun e s1 z => z
    match f, z with
    | .next, ⟨σ', H', J, q⟩ => exact wpAny_execs_nil ⟨σ', H', J.ofTry ok, q⟩
    | .brk, ⟨σ', H', J, q⟩ => exact ⟨σ', H', J.ofTry ok, q⟩
    | .cont, ⟨σ', H', J, q⟩ => exact ⟨σ', H', J.ofTry ok, q⟩
    | .ret u, ⟨v, σ', H', J, r, q⟩ => exact ⟨v, σ', H', J.ofTry ok, r, q⟩
  · obtain ⟨a, B, sI, pins', σ1, H1, cls, d, ea, J', nb, up, sky, na, os, ag, w⟩ := xx
    subst ea
    have J : Inv X pins σ1 H1 sI := J'.ofTry ok
    rw [st] at sky
    show wpAny (model X.prog X.w) X.A (noteFrame (.ref a) X.env) _ _ _
    refine Sky.land Zc.steady A1 fr sky fun h3 fl up3 => ?_
    have J3 : Inv X pins σ1 H1 { s' with heap := h3 } := J.landed nb fl.1 (up.trans up3) os ag
    obtain ⟨oe, vs, he, hz, hdt⟩ := fl.there
    have out : a ∉ frs (X.env :: X.outer) := fun m => by
      obtain ⟨_, o2, e2, ne⟩ := fl.2.2.1.mem m
      rw [he] at e2
      cases e2
      exact ne _ hdt
    have notL : a ≠ X.env.locals := fun z => out (List.mem_filterMap.mpr ⟨X.env, List.mem_cons_self, by rw [fr, z]⟩)
    have notF : a ∉ X.fs := fun m => by
      obtain ⟨e, he, q⟩ := List.mem_filterMap.mp m
      exact out (List.mem_filterMap.mpr ⟨e, List.mem_cons_of_mem _ he, q⟩)
    have S3 := J3.suite he hdt na notL notF
    have ty : PySem.W.Looks (model X.prog X.w) h3 (typeOf (.ref a)) cls := fun A Q E s k q => wpAny_typeOf_ref (k _ _ he) (by rw [hz.1]; exact q)
    have each : ∀ (hs2 : List ExceptHandler) (l2 : List (Value × (Addr → Value → Option Addr → TS))), Some1 X i hs2 l2 → wEach X.K i (fun _ _ _ _ => False) D l2 cls d σ1 H1 → wpAny (model X.prog X.w) X.A (handleBy (.ref a) X.env hs2) (SP X pins D) X.xe { s' with heap := h3 } := by
      intro hs2 l2 hk
      induction hk with
      | any hds =>
        intro wo
        exact False.elim wo
      | @cons x n c ts b bs p q hds l3 nm at_ lo su t ih =>
        intro wo
        obtain ⟨k, hk, yes, no⟩ := wo
        refine wpAny_handleBy_cons (codeAny_handlers_test ?_) (by intro q; cases q)
        have LM := PySem.W.exm_one (M := model X.prog X.w) (J3.kIn) ty hk
        have see : ∀ {Q : Value → Shared → Prop} {E : Value → Shared → Prop}, Q c { s' with heap := h3 } → wpAny (model X.prog X.w) (X.A.mark (some (.ref a))) (eval (.Name x p) X.env) Q E { s' with heap := h3 } := by
          intro Q E q
          obtain ⟨g1, g2, g3 | ⟨g3, g4, g5⟩⟩ := nm
          · exact ld_glob (X := X.suite a ((a, oe) :: (X.pn ++ pins))) S3 g1 g3 q g2
          · exact ld_blt (X := X.suite a ((a, oe) :: (X.pn ++ pins))) S3 g1 g3 g4 q g5 g2
        refine see (LM.here ?_)
        cases k with
        | false =>
          show wpAny _ X.A (handleBy (.ref a) X.env hds) _ _ _
          exact ih (no rfl)
        | true =>
          refine codeAny_handlers_suite_as (HandSPX.lands_againZ fl fun h4 fl4 up4 => ?_)
          have J4 : Inv X pins σ1 H1 { s' with heap := h4 } := J.landed nb fl4.1 ((up.trans up3).trans up4) os ag
          obtain ⟨o4, v4, e4, z4, d4⟩ := fl4.there
          have S4 := J4.suite e4 d4 na notL notF
          refine store_ok (X := X.suite a ((a, o4) :: (X.pn ++ pins))) (v := .ref a) S4 nd at_ (.inl lo) rfl (fun s5 S5 => ?_) (.inr lo)
          refine wpAny_mono ((su a o4 cls d (X.pn ++ pins) z4 ⟨_, d4⟩).run [] s5 _ H1 _ S5 (yes rfl a na)) (fun f s6 z => ?_) (fun _ _ z => False.elim z)
          have away : ∀ {σ6 : L2.St} {H6 : Hp} {Q : Shared → Prop}, Inv (X.suite a ((a, o4) :: (X.pn ++ pins))) [] σ6 H6 s6 → (∀ s7, Inv X pins (σ6.set i none) H6 s7 → Q s7) →
              wpAny (model X.prog X.w) X.A (do bindName X.env n .none; unbindBehindTheSuite X.env n q) (fun _ s7 => Q s7) X.xe s6 := fun S6 g => gone_ok (S6.unsuite ok) nd at_ lo g
          match f, z with
          | .next, ⟨σ6, H6, S6, g⟩ => exact away S6 fun s7 J7 => ⟨_, _, J7, g⟩
          | .brk, ⟨σ6, H6, S6, g⟩ => exact away S6 fun s7 J7 => ⟨_, _, J7, g⟩
          | .cont, ⟨σ6, H6, S6, g⟩ => exact away S6 fun s7 J7 => ⟨_, _, J7, g⟩
          | .ret u, ⟨v6, σ6, H6, S6, r6, g⟩ => exact away S6 fun s7 J7 => ⟨_, _, _, J7, r6, g⟩
    exact each _ _ hd w
end
end Vf

set_option maxRecDepth 100000
set_option maxHeartbeats 8000000
namespace Vf
open PySem PySem.Spec PyProof.Rows L2
/-! ### the law's why -/
open LamX (ExtN Tabs TabS)
def WhyE (K : PySem.W.Frag) (C : Nat → Addr) (Q : VK) : XK := fun cls d H =>
  (cls = .ref (C 0) ∧ ∃ (dd : Addr) (v u : V) (dv du : PyData), d = some dd ∧ H dd = some (.xd (fl ["low", "high"] [v, u])) ∧ Dt K H v dv ∧ Dt K H u du ∧ small (.tuple [dv, du]) ∧ ∀ (t : Addr) (H' : Hp), Same H H' → H' t = some (.tup [.str "interval", .str (PyData.tuple [dv, du]).shown]) → Q (.ref t) H')
  ∨ (cls = .ref (C 1) ∧ ∃ (dd : Addr) (wh : Str) (v : V) (dv : PyData), d = some dd ∧ H dd = some (.xd (fl ["what", "number"] [.str wh, v])) ∧ Dt K H v dv ∧ small dv ∧ ∀ (t : Addr) (H' : Hp), Same H H' → H' t = some (.tup [.str "number", .str wh, .str dv.shown]) → Q (.ref t) H')
def TWhy (K : PySem.W.Frag) (C : Nat → Addr) : (XK → Hp → VK → Prop) → Hp → VK → Prop := fun tl H Q => ∀ (H1 : Hp) (k : VK), Same H H1 → tl (WhyE K C Q) H1 k
structure W9 (K : PySem.W.Frag) (mg : Str → Option Value) (C : Nat → Addr) : Prop where
  mI : mg "BadInterval" = some (.ref (C 0))
  mN : mg "BadNumber" = some (.ref (C 1))
  repr : mg "repr" = none
  xf0 : XfC K (C 0)
  xf1 : XfC K (C 1)
  ex00 : PySem.W.exmOne K (.ref (C 0)) (.ref (C 0)) = some true
  ex10 : PySem.W.exmOne K (.ref (C 1)) (.ref (C 0)) = some false
  ex11 : PySem.W.exmOne K (.ref (C 1)) (.ref (C 1)) = some true
  nrL : PySem.W.findIn K (.ref (C 0)) "low" = some none
  nrH : PySem.W.findIn K (.ref (C 0)) "high" = some none
  nrW : PySem.W.findIn K (.ref (C 1)) "what" = some none
  nrN : PySem.W.findIn K (.ref (C 1)) "number" = some none
abbrev sWhy : Stmt := topS 66
theorem scWhy : FnScope ["_law_call", "_law_found", "e"] ["_law_call"] (defScope sWhy) := ⟨rfl, rfl, rfl, by decide +kernel, rfl, by decide +kernel, by decide +kernel⟩
theorem why_gives {X : Cx} {q : Str} {g : Addr} {cdg : Value} {C : Nat → Addr} (T : W9 X.K X.mg C) (hgu : X.A.guards = some []) (hu : X.A.units + 160 < cLine) (hm1 : M1 X.base) :
    LamX.GivesTo X ["_law_call", "_law_found", "e"] "_law_why" (defScope sWhy) g cdg (defBody sWhy) "_law_call" q (TWhy X.K C) := by
  intro f c' s H Q tl act hc h
  refine ⟨_, pss_cons (ps_set (i := 1) scWhy.nd rfl (Or.inl rfl) (pe_tup (pa_cons pe_str pa_nil)))
    (pss_cons (ps_try_some (X := (cxOf C8.CX0 X.prog X.w X.K X.mg X.base ["_law_call", "_law_found", "e"] "_law_why" (defScope sWhy) g cdg X.A X.stack s H C8.E0).nox) (i := 2)
      (l := [(.ref (C 0), _), (.ref (C 1), _)])
      (tb := fun W D σ H => ∃ Ech : XK, (∀ cls d σ' H', Ech cls d H' → σ'.length = 3 → W cls d σ' H') ∧ σ[0]? = some (some (.ref f)) ∧ H c' = some (LamX.CodeO c' q) ∧ tl Ech H fun _ H' => D.nx σ H')
      rfl rfl scWhy.nd (fun W pn xe tk _ => ?_)
      (.cons ⟨rfl, by decide, .inl T.mI⟩ rfl rfl (fun a oe cls d pn hz hf => pss_one (ps_set (i := 1) scWhy.nd rfl (Or.inl rfl) (pe_tup (pa_cons pe_str (pa_cons (pe_callB (id := "repr") (call_reprU X.K (X := (cxOf C8.CX0 X.prog X.w X.K X.mg X.base ["_law_call", "_law_found", "e"] "_law_why" (defScope sWhy) g cdg X.A X.stack s H C8.E0).nox.suite a ((a, oe) :: pn)) (by exact hgu) (by show X.A.units + 3 + 150 < cLine; omega) (by exact hm1)) (by rfl) T.repr (by decide +kernel) (pa_cons (pe_tup (pa_cons (pe_xf T.xf0 T.nrL hz hf (pv 2)) (pa_cons (pe_xf T.xf0 T.nrH hz hf (pv 2)) pa_nil))) pa_nil)) pa_nil)))))
      (.cons ⟨rfl, by decide, .inl T.mN⟩ rfl rfl (fun a oe cls d pn hz hf => pss_one (ps_set (i := 1) scWhy.nd rfl (Or.inl rfl) (pe_tup (pa_cons pe_str (pa_cons (pe_xf T.xf1 T.nrW hz hf (pv 2)) (pa_cons (pe_callB (id := "repr") (call_reprU X.K (X := (cxOf C8.CX0 X.prog X.w X.K X.mg X.base ["_law_call", "_law_found", "e"] "_law_why" (defScope sWhy) g cdg X.A X.stack s H C8.E0).nox.suite a ((a, oe) :: pn)) (by exact hgu) (by show X.A.units + 3 + 150 < cLine; omega) (by exact hm1)) (by rfl) T.repr (by decide +kernel) (pa_cons (pe_xf T.xf1 T.nrN hz hf (pv 2)) pa_nil)) pa_nil)))))) (.any _))))
    (pss_one (ps_ret (pv 1)))), ?_⟩
  · refine ⟨fun pins s' σ H' D I h' => ?_⟩
    obtain ⟨Ech, hW, h1, h2, h3⟩ := h'
    exact (pss_one (ps_expr (act _ pn xe Ech _ _ (takes_len tk) (fun cls d σ' H' z len => hW cls d σ' H' z len)))).run pins s' σ H' D I ⟨h1, h2, h3⟩
  · refine ⟨(by show 1 ≤ sizeLine; decide), fun t0 n0 => ?_⟩
    have s1 : Same H (upd H t0 (HO.tup [V.str "none"])) := same_upd n0
    refine ⟨WhyE X.K C Q, fun cls d σ' H' z len => ?_, rfl, s1 _ _ hc, ?_⟩
    · obtain ⟨x0, x1, x2, rfl⟩ : ∃ x0 x1 x2, σ' = [x0, x1, x2] := by
        match σ', len with
        | [x0, x1, x2], _ => exact ⟨x0, x1, x2, rfl⟩
      rcases z with ⟨rfl, dd, v, u, dv, du, rfl, hdd, hv, hu', sm, k⟩ | ⟨rfl, dd, wh, v, dv, rfl, hdd, hv, sm, k⟩
      · refine ⟨true, T.ex00, fun _ a na => ?_, fun z => nomatch z⟩
        refine ⟨.ref a, rfl, rfl, rfl, dd, _, v, rfl, hdd, (by kernel_rfl), .ref a, rfl, rfl, rfl, dd, _, u, rfl, hdd, (by kernel_rfl), (by show 2 ≤ sizeLine; decide), fun tp ntp => ?_⟩
        have s2 := same_upd (o := HO.tup [v, u]) ntp
        refine ⟨.ref tp, .tuple [dv, du], rfl, .tup (SqT.of upd_same) (.cons (hv.mono s2) (.cons (hu'.mono s2) .nil)), sm, (by show 2 ≤ sizeLine; decide), fun t nt => ?_⟩
        exact ⟨_, rfl, k t _ (s2.trans (same_upd nt)) upd_same⟩
      · refine ⟨false, T.ex10, (fun z => nomatch z), fun _ => ⟨true, T.ex11, fun _ a na => ?_, fun z => nomatch z⟩⟩
        refine ⟨.ref a, rfl, rfl, rfl, dd, _, .str wh, rfl, hdd, (by kernel_rfl), .ref a, rfl, rfl, rfl, dd, _, v, rfl, hdd, (by kernel_rfl), v, dv, rfl, hv, sm, (by show 3 ≤ sizeLine; decide), fun t nt => ?_⟩
        exact ⟨_, rfl, k t _ (same_upd nt) upd_same⟩
    · exact h _ _ s1
structure Yy (K : PySem.W.Frag) (mg : Str → Option Value) where
  g : Addr
  kV : Value
  doc : Value
  pm : Value
  an : Option Addr
  cdv : Value
  ct : Value
  oc : Value
  od : Option Addr
  osl : Array (Option Value)
  m : mg "_law_why" = some (.ref g)
  kp : PySem.W.keepIn K (.ref g) = true
  lk : K.lookup g = some ⟨oc, od, .func (PySem.W.fnOf "_law_why" "_law_why" (defArgs sWhy) (defBody sWhy) (defScope sWhy) .none kV doc pm an cdv ct), osl⟩
  hc : PySem.W.codeIn K cdv "_law_why" = true
  b : L2.Binds K (PySem.W.fnOf "_law_why" "_law_why" (defArgs sWhy) (defBody sWhy) (defScope sWhy) .none kV doc pm an cdv ct) ["_law_call"] []

end Vf

set_option maxRecDepth 100000
namespace Vf
def fcv (row : List Rat) (lo hi x : Rat) : Rat := bn (row.length - 1) (cf row) ((x - lo) / (hi - lo)) ((hi - x) / (hi - lo))
def lowRq (row : List Rat) : List Rat := tab row.length (lowH (cf row))
def upRq (row : List Rat) : List Rat := tab row.length (upH (row.length - 1) (cf row))
theorem fcv_low {row : List Rat} {lo hi : Rat} (h : lo < hi) (h0 : 0 < row.length) (x : Rat) : fcv (lowRq row) lo ((lo + hi) / 2) x = fcv row lo hi x := by
  unfold fcv
  have l : (lowRq row).length = row.length := by unfold lowRq; rw [tab_len]
  rw [l]
  have w0 : hi - lo ≠ 0 := by grind
  have e1 : (x - lo) / ((lo + hi) / 2 - lo) = 2 * ((x - lo) / (hi - lo)) := by
    have : (lo + hi) / 2 - lo = (hi - lo) / 2 := by grind
    rw [this]; grind
  have e2 : ((lo + hi) / 2 - x) / ((lo + hi) / 2 - lo) = (hi - x) / (hi - lo) - (x - lo) / (hi - lo) := by
    have : (lo + hi) / 2 - lo = (hi - lo) / 2 := by grind
    rw [this]; grind
  rw [e1, e2, bn_ext (c := lowH (cf row)) fun k hk => by unfold lowRq; rw [cf_tab, if_pos (by omega)], bn_low]
theorem fcv_up {row : List Rat} {lo hi : Rat} (h : lo < hi) (h0 : 0 < row.length) (x : Rat) : fcv (upRq row) ((lo + hi) / 2) hi x = fcv row lo hi x := by
  unfold fcv
  have l : (upRq row).length = row.length := by unfold upRq; rw [tab_len]
  rw [l]
  have w0 : hi - lo ≠ 0 := by grind
  have e1 : (x - (lo + hi) / 2) / (hi - (lo + hi) / 2) = (x - lo) / (hi - lo) - (hi - x) / (hi - lo) := by
    have : hi - (lo + hi) / 2 = (hi - lo) / 2 := by grind
    rw [this]; grind
  have e2 : (hi - x) / (hi - (lo + hi) / 2) = 2 * ((hi - x) / (hi - lo)) := by
    have : hi - (lo + hi) / 2 = (hi - lo) / 2 := by grind
    rw [this]; grind
  rw [e1, e2, bn_ext (c := upH (row.length - 1) (cf row)) fun k hk => by unfold upRq; rw [cf_tab, if_pos (by omega)], bn_up]
theorem fcv_at {row : List Rat} {lo hi : Rat} (h : lo < hi) (z : Rat) : fcv row lo hi (lo + z * (hi - lo)) = bn (row.length - 1) (cf row) z (1 - z) := by
  unfold fcv
  have w0 : hi - lo ≠ 0 := by grind
  have e1 : (lo + z * (hi - lo) - lo) / (hi - lo) = z := by grind
  have e2 : (hi - (lo + z * (hi - lo))) / (hi - lo) = 1 - z := by grind
  rw [e1, e2]
theorem strip_same {a b : List Rat} (ha : stripQ a = a) (hb : stripQ b = b) (h : ∀ x, ev a x = ev b x) : a = b := by
  have e := stripQ_ext (ev_inj fun x _ => h x)
  rw [ha, hb] at e
  exact e
theorem lowH_fr {M N : Nat} : ∀ (k : Nat) (b : Nat → Rat), (∀ i, Fr M N (b i)) → Fr (M * 2 ^ k) (N * 2 ^ k) (lowH b k)
  | 0, b, h => by rw [Nat.pow_zero, Nat.mul_one, Nat.mul_one]; exact h 0
  | k + 1, b, h => by
    obtain ⟨n1, e1, b1⟩ := lowH_fr k b h
    obtain ⟨n2, e2, b2⟩ := lowH_fr k (nx b) fun i => h (i + 1)
    refine ⟨n1 + n2, ?_, ?_⟩
    · show (lowH b k + lowH (nx b) k) / 2 * ((M * 2 ^ (k + 1) : Nat) : Rat) = _
      rw [Rat.intCast_add, ← e1, ← e2, Nat.pow_succ, ← Nat.mul_assoc, Rat.natCast_mul]
      have : ((2 : Nat) : Rat) = 2 := rfl
      rw [this]
      grind
    · have := Int.natAbs_add_le n1 n2
      have e : N * 2 ^ (k + 1) = N * 2 ^ k + N * 2 ^ k := by rw [Nat.pow_succ, ← Nat.mul_assoc, Nat.mul_two]
      omega
theorem Fr.up {M N k m : Nat} {q : Rat} (h : Fr (M * 2 ^ k) (N * 2 ^ k) q) (hk : k ≤ m) : Fr (M * 2 ^ m) (N * 2 ^ m) q := by
  have e : 2 ^ m = 2 ^ k * 2 ^ (m - k) := by rw [← Nat.pow_add, show k + (m - k) = m by omega]
  have z := h.scale (2 ^ (m - k))
  rw [Nat.mul_assoc, Nat.mul_assoc, ← e] at z
  exact z
theorem lowRq_fr {row : List Rat} {M N : Nat} (h : ∀ i, Fr M N (cf row i)) (hl : row.length ≤ 10) (i : Nat) : Fr (M * 2 ^ 9) (N * 2 ^ 9) (cf (lowRq row) i) := by
  unfold lowRq
  rw [cf_tab]
  split
  · exact (lowH_fr i _ h).up (by omega)
  · exact Fr.zero _ _
theorem upRq_fr {row : List Rat} {M N : Nat} (h : ∀ i, Fr M N (cf row i)) (hl : row.length ≤ 10) (i : Nat) : Fr (M * 2 ^ 9) (N * 2 ^ 9) (cf (upRq row) i) := by
  unfold upRq
  rw [cf_tab]
  split
  · exact (lowH_fr _ _ fun j => h _).up (by omega)
  · exact Fr.zero _ _
/-- ratios of small bottoms over one bottom -/
theorem fr_all {A B : Nat} : ∀ (l : List Rat), (∀ q ∈ l, q.num.natAbs ≤ A ∧ q.den ≤ B) → ∃ L, 0 < L ∧ L ≤ B ^ l.length ∧ ∀ i, Fr L (A * L) (cf l i)
  | [], _ => ⟨1, by decide, by show 1 ≤ B ^ 0; rw [Nat.pow_zero]; exact Nat.le_refl _, fun i => by rw [cf_nil]; exact Fr.zero _ _⟩
  | q :: r, h => by
    obtain ⟨L, L0, Lb, hL⟩ := fr_all r fun x hx => h x (List.mem_cons_of_mem _ hx)
    obtain ⟨h1, h2⟩ := h q (List.mem_cons_self ..)
    refine ⟨L * q.den, Nat.mul_pos L0 q.den_pos, ?_, fun i => ?_⟩
    · show _ ≤ B ^ (r.length + 1)
      rw [Nat.pow_succ]
      exact Nat.mul_le_mul Lb h2
    · rw [cf_cons]
      split
      · have z := (Fr.self q).scale L
        rw [Nat.mul_comm q.den L] at z
        refine z.le ?_
        rw [← Nat.mul_assoc]
        exact Nat.le_trans (Nat.mul_le_mul_right L h1) (Nat.le_mul_of_pos_right _ q.den_pos)
      · have z := (hL (i - 1)).scale q.den
        rw [Nat.mul_assoc] at z
        exact z
end Vf

set_option maxRecDepth 100000
set_option maxHeartbeats 8000000
namespace Vf
open PySem PySem.Spec PyProof.Rows L2
/-! ### wrong intervals -/
/-- a ratio that is passed, small -/
def sm20b (p : Int × Int) : Bool := decide (0 < p.2) && (decide (p.1.natAbs ≤ 2 ^ 20) && decide (p.2.natAbs ≤ 2 ^ 20))
def bad2 (d e : PyData) : Bool := (match partsD d, partsD e with
  | some p, some r => sm20b p && (sm20b r && !decide (p.1 * r.2 < r.1 * p.2))
  | _, _ => true) && ((PyData.tuple [d, e]).showable && (decide ((PyData.tuple [d, e]).depth ≤ 64) && (decide ((PyData.tuple [d, e]).shown.length ≤ 1000) && (PyData.tuple [d, e]).plain)))
def SzIv (d e : PyData) : Prop := ∀ t b x c, partsD d = some (t, b) → partsD e = some (x, c) → 0 < b ∧ 0 < c ∧ Sm20 t ∧ Sm20 b ∧ Sm20 x ∧ Sm20 c
theorem sm20b_ok {p : Int × Int} (h : sm20b p = true) : 0 < p.2 ∧ Sm20 p.1 ∧ Sm20 p.2 := by
  unfold sm20b at h
  rw [Bool.and_eq_true, Bool.and_eq_true, decide_eq_true_iff, decide_eq_true_iff, decide_eq_true_iff] at h
  exact ⟨h.1, h.2.1, h.2.2⟩
theorem bad2_ok {d e : PyData} (h : bad2 d e = true) : ¬ ivD d e ∧ SzIv d e ∧ small (.tuple [d, e]) ∧ (PyData.tuple [d, e]).plain = true := by
  unfold bad2 at h
  rw [Bool.and_eq_true, Bool.and_eq_true, Bool.and_eq_true, Bool.and_eq_true, decide_eq_true_iff, decide_eq_true_iff] at h
  obtain ⟨h1, h2, h3, h4, h5⟩ := h
  refine ⟨fun ⟨t, b, x, c, z1, z2, z3⟩ => ?_, fun t b x c z1 z2 => ?_, ⟨h2, h3, Nat.le_trans h4 (by decide)⟩, h5⟩
  · rw [z1, z2] at h1
    have h1 : (sm20b (t, b) && (sm20b (x, c) && !decide (t * c < x * b))) = true := h1
    rw [Bool.and_eq_true, Bool.and_eq_true, decide_eq_true z3] at h1
    cases h1.2.2
  · rw [z1, z2] at h1
    have h1 : (sm20b (t, b) && (sm20b (x, c) && !decide (t * c < x * b))) = true := h1
    rw [Bool.and_eq_true, Bool.and_eq_true] at h1
    obtain ⟨a1, a2, a3⟩ := sm20b_ok h1.1
    obtain ⟨b1, b2, b3⟩ := sm20b_ok h1.2.1
    exact ⟨a1, b1, a2, a3, b2, b3⟩
def spBadI (K : PySem.W.Frag) : Sp := fun vs H Q _ => ∃ (p lc : Addr) (B : Int), vs = [.ref p] ∧ Pen H p lc B ∧ B ≤ 1000000 ∧
  ∀ (r : Addr) (v u : V) (d e : PyData) (H' : Hp), Pen H' p lc (B + 3) → Kp p H H' → H' r = some (.tup [v, u]) → Dt K (wo p H') v d → Dt K (wo p H') u e → ¬ ivD d e → SzIv d e → small (.tuple [d, e]) → Q (.ref r) H'
section
variable {P : Program} {w : World} {K : PySem.W.Frag} {mg : Str → Option Value} {base : Heap} {CP CR CN CI : Addr}
abbrev sBadI : Stmt := topS 67
theorem scBadI : FnScope ["_law_pen_here", "_law_pairs"] ["_law_pen_here"] (defScope sBadI) := ⟨rfl, rfl, rfl, by decide +kernel, rfl, by decide +kernel, by decide +kernel⟩
theorem ok_badi {f : Addr} {fd : FuncData} (F : Fun K "_law_bad_interval" "_law_bad_interval" sBadI f fd) (T : Bk mg) (G__law_pick : Df P w K mg base "_law_pick" 2 ["_law_pen_here", "_law_some"] spPick) : FnOk P w K mg base CX0 3 f fd ["_law_pen_here"] (spBadI K) := by
  refine F.ok scBadI (fun vs H Q E h => ?_) (fun cdv A outer s H vs Q E hr h => ?_)
  · obtain ⟨p, lc, B, rfl, _⟩ := h
    rfl
  · obtain ⟨p, lc, B, rfl, hP, hB, q⟩ := h
    refine ⟨_, (pss_cons (ps_set (i := 1) scBadI.nd rfl (Or.inl rfl) (pe_lst (pa_cons (pe_tup (pa_cons pe_int (pa_cons pe_int pa_nil))) (pa_cons (pe_tup (pa_cons pe_int (pa_cons pe_int pa_nil))) (pa_cons (pe_tup (pa_cons (pe_tup (pa_cons pe_int (pa_cons pe_int pa_nil))) (pa_cons (pe_tup (pa_cons pe_int (pa_cons pe_int pa_nil))) pa_nil))) (pa_cons (pe_tup (pa_cons pe_non (pa_cons pe_int pa_nil))) (pa_cons (pe_tup (pa_cons pe_int (pa_cons pe_non pa_nil))) (pa_cons (pe_tup (pa_cons pe_int (pa_cons pe_str pa_nil))) (pa_cons (pe_tup (pa_cons (pe_tup (pa_cons pe_int (pa_cons pe_int pa_nil))) (pa_cons pe_int pa_nil))) (pa_cons (pe_tup (pa_cons pe_int (pa_cons (pe_tup (pa_cons pe_int (pa_cons (pe_un un_neg pe_int) pa_nil))) pa_nil))) (pa_cons (pe_tup (pa_cons pe_bl (pa_cons pe_int pa_nil))) pa_nil)))))))))))
  (pss_one (ps_ret (pe_call G__law_pick.ok (hr.mono (by decide)) rfl G__law_pick.m G__law_pick.kp G__law_pick.b .nil pass0 (pa_cons (pv 0) (pa_cons (pe_op op_cat (pv 1) (pe_lst (pa_cons (pe_tup (pa_cons pe_int (pa_cons pe_bl pa_nil))) (pa_cons (pe_tup (pa_cons (pe_lst (pa_cons pe_int pa_nil)) (pa_cons pe_int pa_nil))) (pa_cons (pe_tup (pa_cons (pe_tup (pa_cons pe_int (pa_cons pe_int pa_nil))) (pa_cons (pe_tup (pa_cons pe_int (pa_cons pe_int pa_nil))) pa_nil))) (pa_cons (pe_tup (pa_cons pe_int (pa_cons pe_int pa_nil))) (pa_cons (pe_tup (pa_cons pe_str (pa_cons pe_str pa_nil))) pa_nil))))))) pa_nil)))))), ?_⟩
    refine ⟨(by show 2 ≤ sizeLine; decide), fun b1 nb1 => ?_⟩
    have eb1 : upd H b1 (HO.tup [V.int 1, V.int 1]) b1 = some (HO.tup [V.int 1, V.int 1]) := upd_same
    have sb1 : Same H (upd H b1 (HO.tup [V.int 1, V.int 1])) := same_upd nb1
    try dsimp only [tNil] at nb1 ⊢
    generalize upd H b1 (HO.tup [V.int 1, V.int 1]) = G1 at eb1 sb1 ⊢
    clear nb1
    refine ⟨(by show 2 ≤ sizeLine; decide), fun b2 nb2 => ?_⟩
    have eb2 : upd G1 b2 (HO.tup [V.int 2, V.int 1]) b2 = some (HO.tup [V.int 2, V.int 1]) := upd_same
    have sb2 : Same G1 (upd G1 b2 (HO.tup [V.int 2, V.int 1])) := same_upd nb2
    try dsimp only [tNil] at nb2 ⊢
    generalize upd G1 b2 (HO.tup [V.int 2, V.int 1]) = G2 at eb2 sb2 ⊢
    clear nb2
    refine ⟨(by show 2 ≤ sizeLine; decide), fun c1 nc1 => ?_⟩
    have ec1 : upd G2 c1 (HO.tup [V.int 1, V.int 2]) c1 = some (HO.tup [V.int 1, V.int 2]) := upd_same
    have sc1 : Same G2 (upd G2 c1 (HO.tup [V.int 1, V.int 2])) := same_upd nc1
    try dsimp only [tNil] at nc1 ⊢
    generalize upd G2 c1 (HO.tup [V.int 1, V.int 2]) = G3 at ec1 sc1 ⊢
    clear nc1
    refine ⟨(by show 2 ≤ sizeLine; decide), fun c2 nc2 => ?_⟩
    have ec2 : upd G3 c2 (HO.tup [V.int 1, V.int 3]) c2 = some (HO.tup [V.int 1, V.int 3]) := upd_same
    have sc2 : Same G3 (upd G3 c2 (HO.tup [V.int 1, V.int 3])) := same_upd nc2
    try dsimp only [tNil] at nc2 ⊢
    generalize upd G3 c2 (HO.tup [V.int 1, V.int 3]) = G4 at ec2 sc2 ⊢
    clear nc2
    refine ⟨(by show 2 ≤ sizeLine; decide), fun b3 nb3 => ?_⟩
    have eb3 : upd G4 b3 (HO.tup [V.ref c1, V.ref c2]) b3 = some (HO.tup [V.ref c1, V.ref c2]) := upd_same
    have sb3 : Same G4 (upd G4 b3 (HO.tup [V.ref c1, V.ref c2])) := same_upd nb3
    try dsimp only [tNil] at nb3 ⊢
    generalize upd G4 b3 (HO.tup [V.ref c1, V.ref c2]) = G5 at eb3 sb3 ⊢
    clear nb3
    refine ⟨(by show 2 ≤ sizeLine; decide), fun b4 nb4 => ?_⟩
    have eb4 : upd G5 b4 (HO.tup [V.non, V.int 1]) b4 = some (HO.tup [V.non, V.int 1]) := upd_same
    have sb4 : Same G5 (upd G5 b4 (HO.tup [V.non, V.int 1])) := same_upd nb4
    try dsimp only [tNil] at nb4 ⊢
    generalize upd G5 b4 (HO.tup [V.non, V.int 1]) = G6 at eb4 sb4 ⊢
    clear nb4
    refine ⟨(by show 2 ≤ sizeLine; decide), fun b5 nb5 => ?_⟩
    have eb5 : upd G6 b5 (HO.tup [V.int 0, V.non]) b5 = some (HO.tup [V.int 0, V.non]) := upd_same
    have sb5 : Same G6 (upd G6 b5 (HO.tup [V.int 0, V.non])) := same_upd nb5
    try dsimp only [tNil] at nb5 ⊢
    generalize upd G6 b5 (HO.tup [V.int 0, V.non]) = G7 at eb5 sb5 ⊢
    clear nb5
    refine ⟨(by show 2 ≤ sizeLine; decide), fun b6 nb6 => ?_⟩
    have eb6 : upd G7 b6 (HO.tup [V.int 0, V.str "1"]) b6 = some (HO.tup [V.int 0, V.str "1"]) := upd_same
    have sb6 : Same G7 (upd G7 b6 (HO.tup [V.int 0, V.str "1"])) := same_upd nb6
    try dsimp only [tNil] at nb6 ⊢
    generalize upd G7 b6 (HO.tup [V.int 0, V.str "1"]) = G8 at eb6 sb6 ⊢
    clear nb6
    refine ⟨(by show 2 ≤ sizeLine; decide), fun c3 nc3 => ?_⟩
    have ec3 : upd G8 c3 (HO.tup [V.int 1, V.int 0]) c3 = some (HO.tup [V.int 1, V.int 0]) := upd_same
    have sc3 : Same G8 (upd G8 c3 (HO.tup [V.int 1, V.int 0])) := same_upd nc3
    try dsimp only [tNil] at nc3 ⊢
    generalize upd G8 c3 (HO.tup [V.int 1, V.int 0]) = G9 at ec3 sc3 ⊢
    clear nc3
    refine ⟨(by show 2 ≤ sizeLine; decide), fun b7 nb7 => ?_⟩
    have eb7 : upd G9 b7 (HO.tup [V.ref c3, V.int 2]) b7 = some (HO.tup [V.ref c3, V.int 2]) := upd_same
    have sb7 : Same G9 (upd G9 b7 (HO.tup [V.ref c3, V.int 2])) := same_upd nb7
    try dsimp only [tNil] at nb7 ⊢
    generalize upd G9 b7 (HO.tup [V.ref c3, V.int 2]) = G10 at eb7 sb7 ⊢
    clear nb7
    refine ⟨_, rfl, (by show 2 ≤ sizeLine; decide), fun c4 nc4 => ?_⟩
    have ec4 : upd G10 c4 (HO.tup [V.int 1, V.int (-1)]) c4 = some (HO.tup [V.int 1, V.int (-1)]) := upd_same
    have sc4 : Same G10 (upd G10 c4 (HO.tup [V.int 1, V.int (-1)])) := same_upd nc4
    try dsimp only [tNil] at nc4 ⊢
    generalize upd G10 c4 (HO.tup [V.int 1, V.int (-1)]) = G11 at ec4 sc4 ⊢
    clear nc4
    refine ⟨(by show 2 ≤ sizeLine; decide), fun b8 nb8 => ?_⟩
    have eb8 : upd G11 b8 (HO.tup [V.int 0, V.ref c4]) b8 = some (HO.tup [V.int 0, V.ref c4]) := upd_same
    have sb8 : Same G11 (upd G11 b8 (HO.tup [V.int 0, V.ref c4])) := same_upd nb8
    try dsimp only [tNil] at nb8 ⊢
    generalize upd G11 b8 (HO.tup [V.int 0, V.ref c4]) = G12 at eb8 sb8 ⊢
    clear nb8
    refine ⟨(by show 2 ≤ sizeLine; decide), fun b9 nb9 => ?_⟩
    have eb9 : upd G12 b9 (HO.tup [V.bl true, V.int 2]) b9 = some (HO.tup [V.bl true, V.int 2]) := upd_same
    have sb9 : Same G12 (upd G12 b9 (HO.tup [V.bl true, V.int 2])) := same_upd nb9
    try dsimp only [tNil] at nb9 ⊢
    generalize upd G12 b9 (HO.tup [V.bl true, V.int 2]) = G13 at eb9 sb9 ⊢
    clear nb9
    refine ⟨(by show 9 ≤ sizeLine; decide), fun la nla => ?_⟩
    have ela : upd G13 la (HO.lst [V.ref b1, V.ref b2, V.ref b3, V.ref b4, V.ref b5, V.ref b6, V.ref b7, V.ref b8, V.ref b9]) la = some (HO.lst [V.ref b1, V.ref b2, V.ref b3, V.ref b4, V.ref b5, V.ref b6, V.ref b7, V.ref b8, V.ref b9]) := upd_same
    have sla : Same G13 (upd G13 la (HO.lst [V.ref b1, V.ref b2, V.ref b3, V.ref b4, V.ref b5, V.ref b6, V.ref b7, V.ref b8, V.ref b9])) := same_upd nla
    try dsimp only [tNil] at nla ⊢
    generalize upd G13 la (HO.lst [V.ref b1, V.ref b2, V.ref b3, V.ref b4, V.ref b5, V.ref b6, V.ref b7, V.ref b8, V.ref b9]) = G14 at ela sla ⊢
    clear nla
    refine ⟨_, rfl, _, rfl, ?_⟩
    refine ⟨(by show 2 ≤ sizeLine; decide), fun b10 nb10 => ?_⟩
    have eb10 : upd G14 b10 (HO.tup [V.int 0, V.bl true]) b10 = some (HO.tup [V.int 0, V.bl true]) := upd_same
    have sb10 : Same G14 (upd G14 b10 (HO.tup [V.int 0, V.bl true])) := same_upd nb10
    try dsimp only [tNil] at nb10 ⊢
    generalize upd G14 b10 (HO.tup [V.int 0, V.bl true]) = G15 at eb10 sb10 ⊢
    clear nb10
    refine ⟨(by show 1 ≤ sizeLine; decide), fun c5 nc5 => ?_⟩
    have ec5 : upd G15 c5 (HO.lst [V.int 1]) c5 = some (HO.lst [V.int 1]) := upd_same
    have sc5 : Same G15 (upd G15 c5 (HO.lst [V.int 1])) := same_upd nc5
    try dsimp only [tNil] at nc5 ⊢
    generalize upd G15 c5 (HO.lst [V.int 1]) = G16 at ec5 sc5 ⊢
    clear nc5
    refine ⟨(by show 2 ≤ sizeLine; decide), fun b11 nb11 => ?_⟩
    have eb11 : upd G16 b11 (HO.tup [V.ref c5, V.int 2]) b11 = some (HO.tup [V.ref c5, V.int 2]) := upd_same
    have sb11 : Same G16 (upd G16 b11 (HO.tup [V.ref c5, V.int 2])) := same_upd nb11
    try dsimp only [tNil] at nb11 ⊢
    generalize upd G16 b11 (HO.tup [V.ref c5, V.int 2]) = G17 at eb11 sb11 ⊢
    clear nb11
    refine ⟨(by show 2 ≤ sizeLine; decide), fun c6 nc6 => ?_⟩
    have ec6 : upd G17 c6 (HO.tup [V.int 2, V.int 4]) c6 = some (HO.tup [V.int 2, V.int 4]) := upd_same
    have sc6 : Same G17 (upd G17 c6 (HO.tup [V.int 2, V.int 4])) := same_upd nc6
    try dsimp only [tNil] at nc6 ⊢
    generalize upd G17 c6 (HO.tup [V.int 2, V.int 4]) = G18 at ec6 sc6 ⊢
    clear nc6
    refine ⟨(by show 2 ≤ sizeLine; decide), fun c7 nc7 => ?_⟩
    have ec7 : upd G18 c7 (HO.tup [V.int 1, V.int 2]) c7 = some (HO.tup [V.int 1, V.int 2]) := upd_same
    have sc7 : Same G18 (upd G18 c7 (HO.tup [V.int 1, V.int 2])) := same_upd nc7
    try dsimp only [tNil] at nc7 ⊢
    generalize upd G18 c7 (HO.tup [V.int 1, V.int 2]) = G19 at ec7 sc7 ⊢
    clear nc7
    refine ⟨(by show 2 ≤ sizeLine; decide), fun b12 nb12 => ?_⟩
    have eb12 : upd G19 b12 (HO.tup [V.ref c6, V.ref c7]) b12 = some (HO.tup [V.ref c6, V.ref c7]) := upd_same
    have sb12 : Same G19 (upd G19 b12 (HO.tup [V.ref c6, V.ref c7])) := same_upd nb12
    try dsimp only [tNil] at nb12 ⊢
    generalize upd G19 b12 (HO.tup [V.ref c6, V.ref c7]) = G20 at eb12 sb12 ⊢
    clear nb12
    refine ⟨(by show 2 ≤ sizeLine; decide), fun b13 nb13 => ?_⟩
    have eb13 : upd G20 b13 (HO.tup [V.int 0, V.int 0]) b13 = some (HO.tup [V.int 0, V.int 0]) := upd_same
    have sb13 : Same G20 (upd G20 b13 (HO.tup [V.int 0, V.int 0])) := same_upd nb13
    try dsimp only [tNil] at nb13 ⊢
    generalize upd G20 b13 (HO.tup [V.int 0, V.int 0]) = G21 at eb13 sb13 ⊢
    clear nb13
    refine ⟨(by show 2 ≤ sizeLine; decide), fun b14 nb14 => ?_⟩
    have eb14 : upd G21 b14 (HO.tup [V.str "a", V.str "b"]) b14 = some (HO.tup [V.str "a", V.str "b"]) := upd_same
    have sb14 : Same G21 (upd G21 b14 (HO.tup [V.str "a", V.str "b"])) := same_upd nb14
    try dsimp only [tNil] at nb14 ⊢
    generalize upd G21 b14 (HO.tup [V.str "a", V.str "b"]) = G22 at eb14 sb14 ⊢
    clear nb14
    refine ⟨(by show 5 ≤ sizeLine; decide), fun lb nlb => ?_⟩
    have elb : upd G22 lb (HO.lst [V.ref b10, V.ref b11, V.ref b12, V.ref b13, V.ref b14]) lb = some (HO.lst [V.ref b10, V.ref b11, V.ref b12, V.ref b13, V.ref b14]) := upd_same
    have slb : Same G22 (upd G22 lb (HO.lst [V.ref b10, V.ref b11, V.ref b12, V.ref b13, V.ref b14])) := same_upd nlb
    try dsimp only [tNil] at nlb ⊢
    generalize upd G22 lb (HO.lst [V.ref b10, V.ref b11, V.ref b12, V.ref b13, V.ref b14]) = G23 at elb slb ⊢
    clear nlb
    have Slb : Same G23 G23 := Same.refl _
    have Sb14 := slb.trans Slb
    have Sb13 := sb14.trans Sb14
    have Sb12 := sb13.trans Sb13
    have Sc7 := sb12.trans Sb12
    have Sc6 := sc7.trans Sc7
    have Sb11 := sc6.trans Sc6
    have Sc5 := sb11.trans Sb11
    have Sb10 := sc5.trans Sc5
    have Sla := sb10.trans Sb10
    have Sb9 := sla.trans Sla
    have Sb8 := sb9.trans Sb9
    have Sc4 := sb8.trans Sb8
    have Sb7 := sc4.trans Sc4
    have Sc3 := sb7.trans Sb7
    have Sb6 := sc3.trans Sc3
    have Sb5 := sb6.trans Sb6
    have Sb4 := sb5.trans Sb5
    have Sb3 := sb4.trans Sb4
    have Sc2 := sb3.trans Sb3
    have Sc1 := sc2.trans Sc2
    have Sb2 := sc1.trans Sc1
    have Sb1 := sb2.trans Sb2
    have Sall := sb1.trans Sb1
    refine ⟨la, lb, _, _, rfl, rfl, Sla _ _ ela, elb, (by show 14 ≤ sizeLine; decide), fun lx nlx => ?_⟩
    have elx : upd G23 lx (HO.lst [V.ref b1, V.ref b2, V.ref b3, V.ref b4, V.ref b5, V.ref b6, V.ref b7, V.ref b8, V.ref b9, V.ref b10, V.ref b11, V.ref b12, V.ref b13, V.ref b14]) lx = some (HO.lst [V.ref b1, V.ref b2, V.ref b3, V.ref b4, V.ref b5, V.ref b6, V.ref b7, V.ref b8, V.ref b9, V.ref b10, V.ref b11, V.ref b12, V.ref b13, V.ref b14]) := upd_same
    have slx : Same G23 (upd G23 lx (HO.lst [V.ref b1, V.ref b2, V.ref b3, V.ref b4, V.ref b5, V.ref b6, V.ref b7, V.ref b8, V.ref b9, V.ref b10, V.ref b11, V.ref b12, V.ref b13, V.ref b14])) := same_upd nlx
    have hPl := hP.same Sall
    have plx := (hPl.ne_new nlx).1
    refine ⟨p, lc, lx, _, [V.ref b1, V.ref b2, V.ref b3, V.ref b4, V.ref b5, V.ref b6, V.ref b7, V.ref b8, V.ref b9, V.ref b10, V.ref b11, V.ref b12, V.ref b13, V.ref b14], rfl, hPl.same slx, by omega, elx, plx, (by show 0 < 14; decide), (by show 14 < 1000000; decide), fun x G hx hPG kG => ?_⟩
    have KK : ∀ {Hk : Hp} {a : Addr} {o : HO}, Same Hk G23 → Hk a = some o → (∀ m, o ≠ HO.dK m) → wo p G a = some o := fun {Hk a o} s e n => by
      have e2 := slx _ _ (s _ _ e)
      obtain ⟨_, _, _, _, _, g1, _⟩ := hPl.same slx
      have ap : a ≠ p := fun z => by rw [z, g1.1] at e2; cases e2; exact n _ rfl
      exact wo_at ap (kG _ _ ap e2)
    have fin : ∀ (r : Addr) (v u : V) (d e : PyData), wo p G r = some (.tup [v, u]) → Dt K (wo p G) v d → Dt K (wo p G) u e → bad2 d e = true → Q (.ref r) G := fun r v u d e h1 h2 h3 h4 => by
      obtain ⟨z1, z2, z3, z4⟩ := bad2_ok h4
      exact q r v u d e G (hPG.more (by omega)) (((Kp.of Sall).trans (Kp.of slx)).trans kG) (wo_sub _ _ h1) h2 h3 z1 z2 z3
    simp only [List.mem_cons, List.not_mem_nil, or_false] at hx
    rcases hx with h | h | h | h | h | h | h | h | h | h | h | h | h | h
    · rw [h]
      exact fin b1 (V.int 1) (V.int 1) (.int 1) (.int 1) (KK Sb1 eb1 (fun _ z => by cases z)) (.int _) (.int _) (by decide +kernel)
    · rw [h]
      exact fin b2 (V.int 2) (V.int 1) (.int 2) (.int 1) (KK Sb2 eb2 (fun _ z => by cases z)) (.int _) (.int _) (by decide +kernel)
    · rw [h]
      exact fin b3 (V.ref c1) (V.ref c2) (.tuple [.int 1, .int 2]) (.tuple [.int 1, .int 3]) (KK Sb3 eb3 (fun _ z => by cases z)) (.tup (SqT.of (KK Sc1 ec1 (fun _ z => by cases z))) (.cons (.int _) (.cons (.int _) .nil))) (.tup (SqT.of (KK Sc2 ec2 (fun _ z => by cases z))) (.cons (.int _) (.cons (.int _) .nil))) (by decide +kernel)
    · rw [h]
      exact fin b4 (V.non) (V.int 1) (.none) (.int 1) (KK Sb4 eb4 (fun _ z => by cases z)) (.non) (.int _) (by decide +kernel)
    · rw [h]
      exact fin b5 (V.int 0) (V.non) (.int 0) (.none) (KK Sb5 eb5 (fun _ z => by cases z)) (.int _) (.non) (by decide +kernel)
    · rw [h]
      exact fin b6 (V.int 0) (V.str "1") (.int 0) (.str "1") (KK Sb6 eb6 (fun _ z => by cases z)) (.int _) (.str _) (by decide +kernel)
    · rw [h]
      exact fin b7 (V.ref c3) (V.int 2) (.tuple [.int 1, .int 0]) (.int 2) (KK Sb7 eb7 (fun _ z => by cases z)) (.tup (SqT.of (KK Sc3 ec3 (fun _ z => by cases z))) (.cons (.int _) (.cons (.int _) .nil))) (.int _) (by decide +kernel)
    · rw [h]
      exact fin b8 (V.int 0) (V.ref c4) (.int 0) (.tuple [.int 1, .int (-1)]) (KK Sb8 eb8 (fun _ z => by cases z)) (.int _) (.tup (SqT.of (KK Sc4 ec4 (fun _ z => by cases z))) (.cons (.int _) (.cons (.int _) .nil))) (by decide +kernel)
    · rw [h]
      exact fin b9 (V.bl true) (V.int 2) (.bool true) (.int 2) (KK Sb9 eb9 (fun _ z => by cases z)) (.bl _) (.int _) (by decide +kernel)
    · rw [h]
      exact fin b10 (V.int 0) (V.bl true) (.int 0) (.bool true) (KK Sb10 eb10 (fun _ z => by cases z)) (.int _) (.bl _) (by decide +kernel)
    · rw [h]
      exact fin b11 (V.ref c5) (V.int 2) (.list [.int 1]) (.int 2) (KK Sb11 eb11 (fun _ z => by cases z)) (.lst (SqL.of (KK Sc5 ec5 (fun _ z => by cases z))) (.cons (.int _) .nil)) (.int _) (by decide +kernel)
    · rw [h]
      exact fin b12 (V.ref c6) (V.ref c7) (.tuple [.int 2, .int 4]) (.tuple [.int 1, .int 2]) (KK Sb12 eb12 (fun _ z => by cases z)) (.tup (SqT.of (KK Sc6 ec6 (fun _ z => by cases z))) (.cons (.int _) (.cons (.int _) .nil))) (.tup (SqT.of (KK Sc7 ec7 (fun _ z => by cases z))) (.cons (.int _) (.cons (.int _) .nil))) (by decide +kernel)
    · rw [h]
      exact fin b13 (V.int 0) (V.int 0) (.int 0) (.int 0) (KK Sb13 eb13 (fun _ z => by cases z)) (.int _) (.int _) (by decide +kernel)
    · rw [h]
      exact fin b14 (V.str "a") (V.str "b") (.str "a") (.str "b") (KK Sb14 eb14 (fun _ z => by cases z)) (.str _) (.str _) (by decide +kernel)
end

end Vf

set_option maxRecDepth 100000
set_option maxHeartbeats 8000000
namespace Vf
open PySem PySem.Spec PyProof.Rows L2
theorem mid_sz {a b : Rat} {s1 t1 s2 t2 : Nat} (h1 : a.num.natAbs ≤ 2 ^ s1) (h2 : a.den ≤ 2 ^ t1) (h3 : b.num.natAbs ≤ 2 ^ s2) (h4 : b.den ≤ 2 ^ t2) (e : s1 + t2 = s2 + t1) :
    ((a + b) / 2).num.natAbs ≤ 2 ^ (s1 + t2 + 1) ∧ ((a + b) / 2).den ≤ 2 ^ (t1 + t2 + 1) ∧ (a + b).num.natAbs ≤ 2 ^ (s1 + t2 + 1) ∧ (a + b).den ≤ 2 ^ (t1 + t2) := by
  have e1 := low_add a b
  have d1 := a.den_pos
  have d2 := b.den_pos
  obtain ⟨u1, u2⟩ := low_size (t := a.num * b.den + b.num * a.den) (b := (a.den : Int) * b.den) (Int.mul_ne_zero (by omega) (by omega))
  rw [e1] at u1 u2
  have u1 : (a + b).num.natAbs ≤ (a.num * (b.den : Int) + b.num * (a.den : Int)).natAbs := u1
  have u2 : ((a + b).den : Int).natAbs ≤ ((a.den : Int) * (b.den : Int)).natAbs := u2
  have m1 : (a.num * (b.den : Int)).natAbs ≤ 2 ^ (s1 + t2) := by
    rw [Int.natAbs_mul, Int.natAbs_natCast, Nat.pow_add]
    exact Nat.mul_le_mul h1 h4
  have m2 : (b.num * (a.den : Int)).natAbs ≤ 2 ^ (s1 + t2) := by
    rw [e, Int.natAbs_mul, Int.natAbs_natCast, Nat.pow_add]
    exact Nat.mul_le_mul h3 h2
  have m3 : ((a.den : Int) * (b.den : Int)).natAbs ≤ 2 ^ (t1 + t2) := by
    rw [Int.natAbs_mul, Int.natAbs_natCast, Int.natAbs_natCast, Nat.pow_add]
    exact Nat.mul_le_mul h2 h4
  have := Int.natAbs_add_le (a.num * (b.den : Int)) (b.num * (a.den : Int))
  rw [Int.natAbs_natCast] at u2
  have p3 : (2 : Nat) ^ (s1 + t2 + 1) = 2 ^ (s1 + t2) + 2 ^ (s1 + t2) := by rw [Nat.pow_succ]; omega
  have n1 : (a + b).num.natAbs ≤ 2 ^ (s1 + t2 + 1) := by omega
  have n2 : (a + b).den ≤ 2 ^ (t1 + t2) := by omega
  have f : Fr ((a + b).den * 2) ((a + b).num.natAbs) ((a + b) / 2) := ⟨(a + b).num, by
    rw [Rat.natCast_mul, ← num_den (a + b)]
    have : ((2 : Nat) : Rat) = 2 := rfl
    rw [this]
    grind, Nat.le_refl _⟩
  obtain ⟨w1, w2⟩ := f.size (by have := (a + b).den_pos; omega)
  refine ⟨by omega, ?_, n1, n2⟩
  rw [Nat.pow_succ]
  omega
/-! ### polynomials with signs -/
def SigB (i : Nat) (qs : List Rat) : Prop := ∃ M N : Nat, 0 < M ∧ 0 < N ∧ M ≤ 2 ^ (2 + 80 * i) ∧ N ≤ 2 ^ (4 + 110 * i) ∧ ∀ j, Fr M N (cf qs j)
def FacB (g : List Rat) : Prop := ∃ M N : Nat, 0 < M ∧ 0 < N ∧ M ≤ 2 ^ 80 ∧ N ≤ 2 ^ 105 ∧ ∀ j, Fr M N (cf g j)
theorem SigB.up {i : Nat} {qs : List Rat} (h : SigB i qs) : SigB (i + 1) qs := by
  obtain ⟨M, N, M0, N0, Mb, Nb, f⟩ := h
  exact ⟨M, N, M0, N0, Nat.le_trans Mb (Nat.pow_le_pow_right (by decide) (by omega)), Nat.le_trans Nb (Nat.pow_le_pow_right (by decide) (by omega)), f⟩
theorem SigB.next {i : Nat} {qs g : List Rat} (h : SigB i qs) (hg : FacB g) (lq : qs.length ≤ 1 + 4 * i) (i3 : i < 3) (lg : g.length ≤ 5) : SigB (i + 1) (stripQ (pmul qs g)) ∧ (stripQ (pmul qs g)).length ≤ 1 + 4 * (i + 1) := by
  obtain ⟨M, N, M0, N0, Mb, Nb, f⟩ := h
  obtain ⟨M', N', M0', N0', Mb', Nb', f'⟩ := hg
  refine ⟨⟨M * M', 32 * (N * N'), Nat.mul_pos M0 M0', Nat.mul_pos (by decide) (Nat.mul_pos N0 N0'), ?_, ?_, fun j => ?_⟩, ?_⟩
  · refine Nat.le_trans (Nat.mul_le_mul Mb Mb') ?_
    rw [← Nat.pow_add]
    exact Nat.pow_le_pow_right (by decide) (by omega)
  · refine Nat.le_trans (Nat.mul_le_mul (show 32 ≤ 2 ^ 5 by decide) (Nat.mul_le_mul Nb Nb')) ?_
    rw [← Nat.pow_add, ← Nat.pow_add]
    exact Nat.pow_le_pow_right (by decide) (by omega)
  · rw [cf_stripQ]
    exact pmul_fr f f' (by omega) j
  · refine Nat.le_trans (stripQ_le _) ?_
    rw [pmul_len]
    omega
theorem lt43 {z j : Nat} (h : z ≤ 2 ^ j) (hj : j < 4300) : z < 2 ^ 4300 := Nat.lt_of_le_of_lt h (Nat.pow_lt_pow_right (by decide) hj)
theorem lpt_q {K : PySem.W.Frag} {H : Hp} {Q : VK} {E : XK} {l1 l2 : Addr} {a b : List Rat} {Ma Na Mb Nb ja jb ka kb : Nat} (h1 : RL H l1 a) (h2 : RL H l2 b) (la : a.length ≤ 40) (lb : b.length ≤ 40) (Ma0 : 0 < Ma) (Na0 : 0 < Na) (Mb0 : 0 < Mb) (Nb0 : 0 < Nb) (fa : ∀ i, Fr Ma Na (cf a i)) (fb : ∀ i, Fr Mb Nb (cf b i))
    (b1 : Ma ≤ 2 ^ ja) (b2 : Mb ≤ 2 ^ jb) (b3 : Na ≤ 2 ^ ka) (b4 : Nb ≤ 2 ^ kb) (hj : ja + jb < 4300) (hk : ka + kb < 1800) (k : ∀ (l : Addr) (H' : Hp), Same H H' → RL H' l (stripQ (pmul a b)) → Q (.ref l) H') : spLPT [.ref l1, .ref l2] H Q E := by
  refine ⟨l1, l2, a, b, Ma, Na, Mb, Nb, rfl, h1, h2, la, lb, Ma0, Mb0, Na0, Nb0, fa, fb, ?_, ?_, k⟩
  · exact lt43 (j := ja + jb) (by rw [Nat.pow_add]; exact Nat.mul_le_mul b1 b2) hj
  · refine lt43 (j := 6 + (ka + kb)) ?_ (by omega)
    rw [Nat.pow_add, Nat.pow_add]
    exact Nat.mul_le_mul (by decide) (Nat.mul_le_mul b3 b4)
theorem sig_lpt {H : Hp} {Q : VK} {E : XK} {l1 l2 : Addr} {i : Nat} {a b : List Rat} (h1 : RL H l1 a) (h2 : RL H l2 b) (sa : SigB i a) (fb : FacB b) (la : a.length ≤ 1 + 4 * i) (i3 : i < 3) (lb : b.length ≤ 5) (k : ∀ (l : Addr) (H' : Hp), Same H H' → RL H' l (stripQ (pmul a b)) → Q (.ref l) H') : spLPT [.ref l1, .ref l2] H Q E := by
  obtain ⟨M, N, M0, N0, Mb, Nb, f⟩ := sa
  obtain ⟨M', N', M0', N0', Mb', Nb', f'⟩ := fb
  exact lpt_q (K := default) h1 h2 (by omega) (by omega) M0 N0 M0' N0' f f' Mb Mb' Nb Nb' (by omega) (by omega) k
theorem cf_pr2 (a b : Rat) (i : Nat) : cf [a, b] i = if i = 0 then a else if i = 1 then b else 0 := by
  match i with
  | 0 => rfl
  | 1 => rfl
  | i + 2 => exact cf_ge (by show 2 ≤ _; omega)
theorem cf_three (a b c : Rat) (i : Nat) : cf [a, b, c] i = if i = 0 then a else if i = 1 then b else if i = 2 then c else 0 := by
  match i with
  | 0 => rfl
  | 1 => rfl
  | 2 => rfl
  | i + 3 => exact cf_ge (by show 3 ≤ _; omega)
theorem fac_fr {q : Rat} (h1 : q.num.natAbs ≤ 2 ^ 25) (h2 : q.den ≤ 2 ^ 19) (i : Nat) : Fr q.den (2 ^ 25) (cf [rSub ((0 : Int) : Rat) q, ((1 : Int) : Rat)] i) := by
  rw [cf_pr2]
  split
  · have : rSub ((0 : Int) : Rat) q = -q := by
      show ((0 : Int) : Rat) - q = -q
      have : ((0 : Int) : Rat) = 0 := rfl
      grind
    rw [this]
    exact ((Fr.self q).neg).le h1
  · split
    · refine ⟨(q.den : Int), ?_, ?_⟩
      · show ((1 : Int) : Rat) * (q.den : Rat) = (q.den : Rat)
        have : ((1 : Int) : Rat) = 1 := rfl
        grind
      · rw [Int.natAbs_natCast]
        exact Nat.le_trans h2 (Nat.pow_le_pow_right (by decide) (by decide))
    · exact Fr.zero _ _
theorem small_fr {c : Rat} (h : ∃ n : Int, c * ((10 ^ 12 : Nat) : Rat) = (n : Rat) ∧ n.natAbs ≤ 10 ^ 6) (i : Nat) : Fr (10 ^ 12) (10 ^ 6) (cf [c] i) := by
  match i with
  | 0 => exact h
  | i + 1 => rw [cf_ge (by show 1 ≤ _; omega)]; exact Fr.zero _ _
theorem root_fr {c : Rat} (h : ∃ n : Int, c * ((2 : Nat) : Rat) = (n : Rat) ∧ n.natAbs ≤ 6) (i : Nat) : Fr 2 6 (cf [c, ((0 : Int) : Rat), ((1 : Int) : Rat)] i) := by
  rw [cf_three]
  split
  · exact h
  · split
    · exact ⟨0, by decide +kernel, by decide⟩
    · split
      · exact ⟨2, by decide +kernel, by decide⟩
      · exact Fr.zero _ _
theorem one_fr (i : Nat) : Fr 1 1 (cf [((1 : Int) : Rat), ((0 : Int) : Rat), ((1 : Int) : Rat)] i) := by
  rw [cf_three]
  split
  · exact ⟨1, by decide +kernel, by decide⟩
  · split
    · exact ⟨0, by decide +kernel, by decide⟩
    · split
      · exact ⟨1, by decide +kernel, by decide⟩
      · exact Fr.zero _ _
theorem fac2_fr {q : Rat} (h1 : q.num.natAbs ≤ 2 ^ 25) (h2 : q.den ≤ 2 ^ 19) (i : Nat) : Fr (q.den * q.den) (32 * (2 ^ 25 * 2 ^ 25)) (cf (stripQ (pmul [rSub ((0 : Int) : Rat) q, ((1 : Int) : Rat)] [rSub ((0 : Int) : Rat) q, ((1 : Int) : Rat)])) i) := by
  rw [cf_stripQ]
  exact pmul_fr (fac_fr h1 h2) (fac_fr h1 h2) (by show 2 + 2 ≤ 32; decide) i
theorem dd_le {q : Rat} (h2 : q.den ≤ 2 ^ 19) : q.den * q.den ≤ 2 ^ 38 := by
  rw [show (2 : Nat) ^ 38 = 2 ^ 19 * 2 ^ 19 from by decide]
  exact Nat.mul_le_mul h2 h2
theorem FacB.fac {q : Rat} (h1 : q.num.natAbs ≤ 2 ^ 25) (h2 : q.den ≤ 2 ^ 19) : FacB [rSub ((0 : Int) : Rat) q, ((1 : Int) : Rat)] :=
  ⟨q.den, 2 ^ 25, q.den_pos, by decide, Nat.le_trans h2 (Nat.pow_le_pow_right (by decide) (by decide)), Nat.pow_le_pow_right (by decide) (by decide), fac_fr h1 h2⟩
theorem FacB.fac2 {q : Rat} (h1 : q.num.natAbs ≤ 2 ^ 25) (h2 : q.den ≤ 2 ^ 19) : FacB (stripQ (pmul [rSub ((0 : Int) : Rat) q, ((1 : Int) : Rat)] [rSub ((0 : Int) : Rat) q, ((1 : Int) : Rat)])) :=
  ⟨_, _, Nat.mul_pos q.den_pos q.den_pos, by decide, Nat.le_trans (dd_le h2) (Nat.pow_le_pow_right (by decide) (by decide)), by decide +kernel, fac2_fr h1 h2⟩
theorem FacB.root {c : Rat} (h : ∃ n : Int, c * ((2 : Nat) : Rat) = (n : Rat) ∧ n.natAbs ≤ 6) : FacB (stripQ (pmul [c, ((0 : Int) : Rat), ((1 : Int) : Rat)] [c, ((0 : Int) : Rat), ((1 : Int) : Rat)])) :=
  ⟨2 * 2, 32 * (6 * 6), by decide, by decide, by decide +kernel, by decide +kernel, fun i => by rw [cf_stripQ]; exact pmul_fr (root_fr h) (root_fr h) (by show 3 + 3 ≤ 32; decide) i⟩
theorem FacB.one : FacB [((1 : Int) : Rat), ((0 : Int) : Rat), ((1 : Int) : Rat)] := ⟨1, 1, by decide, by decide, Nat.pow_pos (by decide), Nat.pow_pos (by decide), one_fr⟩
theorem FacB.small {q c : Rat} (h1 : q.num.natAbs ≤ 2 ^ 25) (h2 : q.den ≤ 2 ^ 19) (h : ∃ n : Int, c * ((10 ^ 12 : Nat) : Rat) = (n : Rat) ∧ n.natAbs ≤ 10 ^ 6) : FacB (stripQ (padd (stripQ (pmul [rSub ((0 : Int) : Rat) q, ((1 : Int) : Rat)] [rSub ((0 : Int) : Rat) q, ((1 : Int) : Rat)])) [c])) := by
  have d0 := Nat.mul_pos q.den_pos q.den_pos
  refine ⟨q.den * q.den * 10 ^ 12, 32 * (2 ^ 25 * 2 ^ 25) * 10 ^ 12 + 10 ^ 6 * (q.den * q.den), Nat.mul_pos d0 (by decide), by omega, ?_, ?_, fun i => ?_⟩
  · refine Nat.le_trans (Nat.mul_le_mul (dd_le h2) (show 10 ^ 12 ≤ 2 ^ 40 by decide +kernel)) ?_
    rw [← Nat.pow_add]
    exact Nat.pow_le_pow_right (by decide) (by decide)
  · refine Nat.le_trans (Nat.add_le_add_left (Nat.mul_le_mul_left _ (dd_le h2)) _) ?_
    decide +kernel
  · rw [cf_stripQ, cf_padd]
    refine ((fac2_fr h1 h2 i).scale (10 ^ 12)).add ?_
    have z := (small_fr h i).scale (q.den * q.den)
    rw [Nat.mul_comm (10 ^ 12) (q.den * q.den)] at z
    exact z
theorem pow6 : ∃ n : Int, (⟨1, 10 ^ 6, by decide, by decide +kernel⟩ : Rat) * ((10 ^ 12 : Nat) : Rat) = (n : Rat) ∧ n.natAbs ≤ 10 ^ 6 := ⟨10 ^ 6, by decide +kernel, by decide +kernel⟩
def spSigned : Sp := fun vs H Q _ => ∃ (p lc r1 r2 : Addr) (B : Int) (lo hi : Rat), vs = [.ref p, .ref r1, .ref r2] ∧ Pen H p lc B ∧ B ≤ 1000000 ∧ TR H r1 lo ∧ TR H r2 hi ∧ BqQ lo ∧ BqQ hi ∧
  ∀ (l : Addr) (qs : List Rat) (H' : Hp), Pen H' p lc (B + 100) → Kp p H H' → RL H' l qs → qs.length ≤ 13 → stripQ qs = qs → SigB 3 qs → Q (.ref l) H'
section
variable {P : Program} {w : World} {K : PySem.W.Frag} {mg : Str → Option Value} {base : Heap} {CP CR CN CI : Addr}
abbrev sSigned : Stmt := topS 65
theorem scSigned : FnScope ["_law_pen_here", "_law_low", "_law_high", "_law_one", "_law_lap", "_law_place", "_law_way", "_law_factor", "_law_root", "_law_small"] ["_law_pen_here", "_law_low", "_law_high"] (defScope sSigned) := ⟨rfl, rfl, rfl, by decide +kernel, rfl, by decide +kernel, by decide +kernel⟩
theorem ok_signed {f : Addr} {fd : FuncData} (F : Fun K "_law_signed" "_law_signed" sSigned f fd) (T : Bk mg) (G__law_pick : Df P w K mg base "_law_pick" 2 ["_law_pen_here", "_law_some"] spPick) (G__law_draw : Df P w K mg base "_law_draw" 1 ["_law_pen_here", "_law_many"] spDraw) (G__law_middle : Df P w K mg base "_law_middle" 4 ["_law_one", "_law_two"] spMid) (G__law_ratio : Df P w K mg base "_law_ratio" 3 ["_law_pen_here", "_law_most"] spRatio)
    (G__law_minus : Df P w K mg base "_law_minus" 3 ["_law_one", "_law_two"] (spL2 rSub)) (G__law_p_times : Df P w K mg base "_law_p_times" 4 ["_law_one", "_law_two"] spLPT) (G__law_p_plus : Df P w K mg base "_law_p_plus" 4 ["_law_one", "_law_two"] spLPP) : FnOk P w K mg base CX0 5 f fd ["_law_pen_here", "_law_low", "_law_high"] spSigned := by
  refine F.ok scSigned (fun vs H Q E h => ?_) (fun cdv A outer s H vs Q E hr h => ?_)
  · obtain ⟨p, lc, r1, r2, B, lo, hi, rfl, _⟩ := h
    rfl
  · obtain ⟨p, lc, r1, r2, B, lo, hi, rfl, hP, hB, h1, h2, bq1, bq2, q⟩ := h
    refine ⟨_, (pss_cons (ps_set (i := 3) scSigned.nd rfl (Or.inl rfl) (pe_lst (pa_cons (pe_call G__law_pick.ok (hr.mono (by decide)) rfl G__law_pick.m G__law_pick.kp G__law_pick.b .nil pass0 (pa_cons (pv 0) (pa_cons (pe_lst (pa_cons (pe_tup (pa_cons pe_int (pa_cons pe_int pa_nil))) (pa_cons (pe_tup (pa_cons (pe_un un_neg pe_int) (pa_cons pe_int pa_nil))) (pa_cons (pe_tup (pa_cons pe_int (pa_cons pe_int pa_nil))) (pa_cons (pe_tup (pa_cons pe_int (pa_cons pe_int pa_nil))) pa_nil))))) pa_nil))) pa_nil)))
  (pss_cons (ps_for PassesOwn.never rfl (pi_range1 (by rfl) T.range (pa_cons (pe_op op_add pe_int (pe_call G__law_draw.ok (hr.mono (by decide)) rfl G__law_draw.m G__law_draw.kp G__law_draw.b .nil pass0 (pa_cons (pv 0) (pa_cons pe_int pa_nil)))) pa_nil)) (pg_name (i := 4) scSigned.nd rfl (Or.inl rfl))
    (pss_cons (ps_set (i := 5) scSigned.nd rfl (Or.inl rfl) (pe_call G__law_pick.ok (hr.mono (by decide)) rfl G__law_pick.m G__law_pick.kp G__law_pick.b .nil pass0 (pa_cons (pv 0) (pa_cons (pe_lst (pa_cons (pv 1) (pa_cons (pv 2) (pa_cons (pe_call G__law_middle.ok (hr.mono (by decide)) rfl G__law_middle.m G__law_middle.kp G__law_middle.b .nil pass0 (pa_cons (pv 1) (pa_cons (pv 2) pa_nil))) (pa_cons (pe_call G__law_ratio.ok (hr.mono (by decide)) rfl G__law_ratio.m G__law_ratio.kp G__law_ratio.b .nil pass0 (pa_cons (pv 0) (pa_cons pe_int pa_nil))) pa_nil))))) pa_nil))))
    (pss_cons (ps_set (i := 6) scSigned.nd rfl (Or.inl rfl) (pe_call G__law_draw.ok (hr.mono (by decide)) rfl G__law_draw.m G__law_draw.kp G__law_draw.b .nil pass0 (pa_cons (pv 0) (pa_cons pe_int pa_nil))))
    (pss_cons (ps_set (i := 7) scSigned.nd rfl (Or.inl rfl) (pe_lst (pa_cons (pe_call G__law_minus.ok (hr.mono (by decide)) rfl G__law_minus.m G__law_minus.kp G__law_minus.b .nil pass0 (pa_cons (pe_tup (pa_cons pe_int (pa_cons pe_int pa_nil))) (pa_cons (pv 5) pa_nil))) (pa_cons (pe_tup (pa_cons pe_int (pa_cons pe_int pa_nil))) pa_nil))))
    (pss_cons (ps_if (pt_cmpR op_eq (pv 6) pe_int (nomark _))
      (pss_one (ps_set (i := 3) scSigned.nd rfl (Or.inl rfl) (pe_call G__law_p_times.ok (hr.mono (by decide)) rfl G__law_p_times.m G__law_p_times.kp G__law_p_times.b .nil pass0 (pa_cons (pv 3) (pa_cons (pv 7) pa_nil)))))
      pss_nil)
    (pss_cons (ps_if (pt_cmpR op_eq (pv 6) pe_int (nomark _))
      (pss_one (ps_set (i := 3) scSigned.nd rfl (Or.inl rfl) (pe_call G__law_p_times.ok (hr.mono (by decide)) rfl G__law_p_times.m G__law_p_times.kp G__law_p_times.b .nil pass0 (pa_cons (pv 3) (pa_cons (pe_call G__law_p_times.ok (hr.mono (by decide)) rfl G__law_p_times.m G__law_p_times.kp G__law_p_times.b .nil pass0 (pa_cons (pv 7) (pa_cons (pv 7) pa_nil))) pa_nil)))))
      pss_nil)
    (pss_cons (ps_if (pt_cmpR op_eq (pv 6) pe_int (nomark _))
      (pss_cons (ps_set (i := 8) scSigned.nd rfl (Or.inl rfl) (pe_lst (pa_cons (pe_call G__law_pick.ok (hr.mono (by decide)) rfl G__law_pick.m G__law_pick.kp G__law_pick.b .nil pass0 (pa_cons (pv 0) (pa_cons (pe_lst (pa_cons (pe_tup (pa_cons (pe_un un_neg pe_int) (pa_cons pe_int pa_nil))) (pa_cons (pe_tup (pa_cons (pe_un un_neg pe_int) (pa_cons pe_int pa_nil))) (pa_cons (pe_tup (pa_cons (pe_un un_neg pe_int) (pa_cons pe_int pa_nil))) pa_nil)))) pa_nil))) (pa_cons (pe_tup (pa_cons pe_int (pa_cons pe_int pa_nil))) (pa_cons (pe_tup (pa_cons pe_int (pa_cons pe_int pa_nil))) pa_nil)))))
      (pss_one (ps_set (i := 3) scSigned.nd rfl (Or.inl rfl) (pe_call G__law_p_times.ok (hr.mono (by decide)) rfl G__law_p_times.m G__law_p_times.kp G__law_p_times.b .nil pass0 (pa_cons (pv 3) (pa_cons (pe_call G__law_p_times.ok (hr.mono (by decide)) rfl G__law_p_times.m G__law_p_times.kp G__law_p_times.b .nil pass0 (pa_cons (pv 8) (pa_cons (pv 8) pa_nil))) pa_nil))))))
      pss_nil)
    (pss_cons (ps_if (pt_cmpR op_eq (pv 6) pe_int (nomark _))
      (pss_cons (ps_set (i := 9) scSigned.nd rfl (Or.inl rfl) (pe_call G__law_pick.ok (hr.mono (by decide)) rfl G__law_pick.m G__law_pick.kp G__law_pick.b .nil pass0 (pa_cons (pv 0) (pa_cons (pe_lst (pa_cons (pe_tup (pa_cons pe_int (pa_cons (pe_op op_pow pe_int pe_int) pa_nil))) (pa_cons (pe_tup (pa_cons (pe_un un_neg pe_int) (pa_cons (pe_op op_pow pe_int pe_int) pa_nil))) (pa_cons (pe_tup (pa_cons pe_int (pa_cons (pe_op op_pow pe_int pe_int) pa_nil))) (pa_cons (pe_tup (pa_cons (pe_un un_neg pe_int) (pa_cons (pe_op op_pow pe_int pe_int) pa_nil))) pa_nil))))) pa_nil))))
      (pss_one (ps_set (i := 3) scSigned.nd rfl (Or.inl rfl) (pe_call G__law_p_times.ok (hr.mono (by decide)) rfl G__law_p_times.m G__law_p_times.kp G__law_p_times.b .nil pass0 (pa_cons (pv 3) (pa_cons (pe_call G__law_p_plus.ok (hr.mono (by decide)) rfl G__law_p_plus.m G__law_p_plus.kp G__law_p_plus.b .nil pass0 (pa_cons (pe_call G__law_p_times.ok (hr.mono (by decide)) rfl G__law_p_times.m G__law_p_times.kp G__law_p_times.b .nil pass0 (pa_cons (pv 7) (pa_cons (pv 7) pa_nil))) (pa_cons (pe_lst (pa_cons (pv 9) pa_nil)) pa_nil))) pa_nil))))))
      pss_nil)
    (pss_one (ps_if (pt_cmpR op_eq (pv 6) pe_int (nomark _))
      (pss_one (ps_set (i := 3) scSigned.nd rfl (Or.inl rfl) (pe_call G__law_p_times.ok (hr.mono (by decide)) rfl G__law_p_times.m G__law_p_times.kp G__law_p_times.b .nil pass0 (pa_cons (pv 3) (pa_cons (pe_lst (pa_cons (pe_tup (pa_cons pe_int (pa_cons pe_int pa_nil))) (pa_cons (pe_tup (pa_cons pe_int (pa_cons pe_int pa_nil))) (pa_cons (pe_tup (pa_cons pe_int (pa_cons pe_int pa_nil))) pa_nil)))) pa_nil)))))
      pss_nil))))))))))
  (pss_one (ps_ret (pv 3))))), ?_⟩
    have nd : ∀ {G : Hp} {B : Int} {a : Addr} {o : HO}, Pen G p lc B → G a = some o → (∀ m, o ≠ HO.dK m) → a ≠ p := fun hP e n z => by
      obtain ⟨_, _, _, _, _, g1, _⟩ := hP
      rw [z, g1.1] at e
      cases e
      exact n _ rfl
    refine ⟨_, rfl, ?_⟩
    refine ⟨(by show 2 ≤ sizeLine; decide), fun a1 na1 => ?_⟩
    have ea1 : upd H a1 (HO.tup [V.int 1, V.int 1]) a1 = some (HO.tup [V.int 1, V.int 1]) := upd_same
    have sa1 : Same H (upd H a1 (HO.tup [V.int 1, V.int 1])) := same_upd na1
    try dsimp only [tNil] at na1 ⊢
    generalize upd H a1 (HO.tup [V.int 1, V.int 1]) = G1 at ea1 sa1 ⊢
    clear na1
    refine ⟨_, rfl, (by show 2 ≤ sizeLine; decide), fun a2 na2 => ?_⟩
    have ea2 : upd G1 a2 (HO.tup [V.int (-1), V.int 1]) a2 = some (HO.tup [V.int (-1), V.int 1]) := upd_same
    have sa2 : Same G1 (upd G1 a2 (HO.tup [V.int (-1), V.int 1])) := same_upd na2
    try dsimp only [tNil] at na2 ⊢
    generalize upd G1 a2 (HO.tup [V.int (-1), V.int 1]) = G2 at ea2 sa2 ⊢
    clear na2
    refine ⟨(by show 2 ≤ sizeLine; decide), fun a3 na3 => ?_⟩
    have ea3 : upd G2 a3 (HO.tup [V.int 1, V.int 3]) a3 = some (HO.tup [V.int 1, V.int 3]) := upd_same
    have sa3 : Same G2 (upd G2 a3 (HO.tup [V.int 1, V.int 3])) := same_upd na3
    try dsimp only [tNil] at na3 ⊢
    generalize upd G2 a3 (HO.tup [V.int 1, V.int 3]) = G3 at ea3 sa3 ⊢
    clear na3
    refine ⟨(by show 2 ≤ sizeLine; decide), fun a4 na4 => ?_⟩
    have ea4 : upd G3 a4 (HO.tup [V.int 5, V.int 1]) a4 = some (HO.tup [V.int 5, V.int 1]) := upd_same
    have sa4 : Same G3 (upd G3 a4 (HO.tup [V.int 5, V.int 1])) := same_upd na4
    try dsimp only [tNil] at na4 ⊢
    generalize upd G3 a4 (HO.tup [V.int 5, V.int 1]) = G4 at ea4 sa4 ⊢
    clear na4
    refine ⟨(by show 4 ≤ sizeLine; decide), fun aL naL => ?_⟩
    have eaL : upd G4 aL (HO.lst [V.ref a1, V.ref a2, V.ref a3, V.ref a4]) aL = some (HO.lst [V.ref a1, V.ref a2, V.ref a3, V.ref a4]) := upd_same
    have saL : Same G4 (upd G4 aL (HO.lst [V.ref a1, V.ref a2, V.ref a3, V.ref a4])) := same_upd naL
    try dsimp only [tNil] at naL ⊢
    generalize upd G4 aL (HO.lst [V.ref a1, V.ref a2, V.ref a3, V.ref a4]) = G5 at eaL saL ⊢
    clear naL
    have SaL : Same G5 G5 := Same.refl _
    have Sa4 := saL.trans SaL
    have Sa3 := sa4.trans Sa4
    have Sa2 := sa3.trans Sa3
    have Sa1 := sa2.trans Sa2
    have SG := sa1.trans Sa1
    have hPG := hP.same SG
    refine ⟨p, lc, aL, _, _, rfl, hPG, by omega, eaL, nd hPG eaL (fun _ z => by cases z), (by show 0 < 4; decide), (by show 4 < 1000000; decide), fun x K1 hx hP1 k1 => ?_⟩
    obtain ⟨rx, c, rfl, hc, c0, fc⟩ : ∃ (rx : Addr) (c : Rat), x = .ref rx ∧ TR K1 rx c ∧ c ≠ 0 ∧ ∃ n : Int, c * ((3 : Nat) : Rat) = (n : Rat) ∧ n.natAbs ≤ 15 := by
      simp only [List.mem_cons, List.not_mem_nil, or_false] at hx
      have up : ∀ {Hk : Hp} {a : Addr} {o : HO}, Same Hk G5 → Hk a = some o → (∀ m, o ≠ HO.dK m) → K1 a = some o := fun s e n => k1 _ _ (nd hPG (s _ _ e) n) (s _ _ e)
      rcases hx with h | h | h | h
      · exact ⟨a1, ((1 : Int) : Rat), h, tr_int (up Sa1 ea1 (fun _ z => by cases z)), by decide, 3, by decide +kernel, by decide⟩
      · exact ⟨a2, ((-1 : Int) : Rat), h, tr_int (up Sa2 ea2 (fun _ z => by cases z)), by decide, -3, by decide +kernel, by decide⟩
      · exact ⟨a3, ⟨1, 3, by decide, by decide⟩, h, up Sa3 ea3 (fun _ z => by cases z), by decide, 1, by decide +kernel, by decide⟩
      · exact ⟨a4, ((5 : Int) : Rat), h, tr_int (up Sa4 ea4 (fun _ z => by cases z)), by decide, 15, by decide +kernel, by decide⟩
    have k01 : Kp p H K1 := (Kp.of SG).trans k1
    clear sa1 sa2 sa3 sa4 saL Sa1 Sa2 Sa3 Sa4 SaL hx
    refine ⟨(by show 1 ≤ sizeLine; decide), fun ol nol => ?_⟩
    have eol : upd K1 ol (HO.lst [V.ref rx]) ol = some (HO.lst [V.ref rx]) := upd_same
    have sol : Same K1 (upd K1 ol (HO.lst [V.ref rx])) := same_upd nol
    try dsimp only [tNil] at nol ⊢
    generalize upd K1 ol (HO.lst [V.ref rx]) = K2 at eol sol ⊢
    clear nol
    have hP2 := hP1.same sol
    have hol : RL K2 ol [c] := ⟨[rx], eol, .cons (sol _ _ hc) .nil⟩
    have st1 : stripQ [c] = [c] := stripQ_id fun r x e => by
      match r, e with
      | [], e => cases e; exact c0
      | [_], e => cases e
      | _ :: _ :: _, e => cases e
    have sg0 : SigB 0 [c] := ⟨3, 15, by decide, by decide, by decide, by decide, fun i => by
      match i with
      | 0 => exact fc
      | i + 1 => rw [cf_ge (by show 1 ≤ _; omega)]; exact Fr.zero _ _⟩
    have k02 : Kp p H K2 := k01.trans (Kp.of sol)
    refine ⟨_, rfl, p, lc, _, 3, rfl, hP2, by omega, by decide, by decide, fun z K3 z0 z1 hP3 k3 => ⟨_, _, rfl, rfl, ?_⟩⟩
    refine ⟨_, rfl, by omega, by omega, for_range (lo := 0) (n := (1 + z).toNat) (fun i σ H' => ∃ (gl : Addr) (qs : List Rat) (v4 v5 v6 v7 v8 v9 : Option V), σ = [some (.ref p), some (.ref r1), some (.ref r2), some (.ref gl), v4, v5, v6, v7, v8, v9] ∧ Kp p H H' ∧ Pen H' p lc (B + 3 + 20 * i) ∧ RL H' gl qs ∧ qs.length ≤ 1 + 4 * i ∧ stripQ qs = qs ∧ SigB i qs)
      ⟨ol, [c], none, none, none, none, none, none, rfl, k02.trans k3, hP3.more (by omega), hol.kp hP2 k3, Nat.le_refl _, st1, sg0⟩ ?_ ?_⟩
    · rintro i σ H0 hik ⟨gl, qs, v4, v5, v6, v7, v8, v9, rfl, k0, hP0, hgl, lq, sq, sg⟩
      have i3 : i < 3 := by omega
      have h10 : TR H0 r1 lo := h1.kp hP k0
      have h20 : TR H0 r2 hi := h2.kp hP k0
      obtain ⟨mz1, mz2, mz3, mz4⟩ := mid_sz bq1.1 bq1.2 bq2.1 bq2.2 rfl
      have p100 : ∀ {x k m : Nat}, x ≤ 2 ^ k → k ≤ m → x ≤ 2 ^ m := fun h hk => Nat.le_trans h (Nat.pow_le_pow_right (by decide) hk)
      refine ⟨_, rfl, _, rfl, _, rfl, _, rfl, _, rfl, r1, r2, lo, hi, rfl, h10, h20, sr_of (k := 15) bq1.1 (p100 bq1.2 (by decide)) (by decide), sr_of (k := 15) bq2.1 (p100 bq2.2 (by decide)) (by decide), sr_of (k := 25) mz3 (p100 mz4 (by decide)) (by decide), fun mr I1 t1 hmr => ?_⟩
      have hPI1 := hP0.same t1
      refine ⟨_, rfl, p, lc, _, 3, rfl, by decide, by decide, hPI1, by omega, fun rr t b I2 hPI2 kI2 er lw zt zb => ?_⟩
      obtain ⟨qq, eq⟩ := low_is_pq (p := (t, b)) lw
      have hrr : TR I2 rr qq := by
        unfold TR
        rw [er, show t = qq.num from congrArg Prod.fst eq, show b = (qq.den : Int) from congrArg Prod.snd eq]
      rw [show t = qq.num from congrArg Prod.fst eq] at zt
      rw [show b = (qq.den : Int) from congrArg Prod.snd eq, Int.natAbs_natCast] at zb
      refine ⟨(by show 4 ≤ sizeLine; decide), fun pl npl => ?_⟩
      have epl : upd I2 pl (HO.lst [V.ref r1, V.ref r2, V.ref mr, V.ref rr]) pl = some (HO.lst [V.ref r1, V.ref r2, V.ref mr, V.ref rr]) := upd_same
      have spl : Same I2 (upd I2 pl (HO.lst [V.ref r1, V.ref r2, V.ref mr, V.ref rr])) := same_upd npl
      try dsimp only [tNil] at npl ⊢
      generalize upd I2 pl (HO.lst [V.ref r1, V.ref r2, V.ref mr, V.ref rr]) = I3 at epl spl ⊢
      clear npl
      have hPI3 := hPI2.same spl
      have kI3 : Kp p H0 I3 := ((Kp.of t1).trans kI2).trans (Kp.of spl)
      refine ⟨p, lc, pl, _, _, rfl, hPI3, by omega, epl, nd hPI3 epl (fun _ z => by cases z), (by show 0 < 4; decide), (by show 4 < 1000000; decide), fun x I4 hx hPI4 kI4 => ?_⟩
      obtain ⟨rx, y, rfl, hy, y1, y2⟩ : ∃ (rx : Addr) (y : Rat), x = .ref rx ∧ TR I4 rx y ∧ y.num.natAbs ≤ 2 ^ 25 ∧ y.den ≤ 2 ^ 19 := by
        simp only [List.mem_cons, List.not_mem_nil, or_false] at hx
        rcases hx with h | h | h | h
        · exact ⟨r1, lo, h, h10.kp hP0 (kI3.trans kI4), p100 bq1.1 (by decide), p100 bq1.2 (by decide)⟩
        · exact ⟨r2, hi, h, h20.kp hP0 (kI3.trans kI4), p100 bq2.1 (by decide), p100 bq2.2 (by decide)⟩
        · exact ⟨mr, _, h, hmr.kp hPI1 ((kI2.trans (Kp.of spl)).trans kI4), mz1, mz2⟩
        · exact ⟨rr, qq, h, hrr.kp hPI2 ((Kp.of spl).trans kI4), by show _ ≤ 33554432; omega, by show _ ≤ 524288; omega⟩
      have k4 : Kp p H0 I4 := kI3.trans kI4
      clear hx epl spl
      refine ⟨_, rfl, p, lc, _, 6, rfl, hPI4, by omega, by decide, by decide, fun way I5 w0 w6 hPI5 kI5 => ?_⟩
      have hy5 := hy.kp hPI4 kI5
      refine ⟨(by show 2 ≤ sizeLine; decide), fun za nza => ?_⟩
      have eza : upd I5 za (HO.tup [V.int 0, V.int 1]) za = some (HO.tup [V.int 0, V.int 1]) := upd_same
      have sza : Same I5 (upd I5 za (HO.tup [V.int 0, V.int 1])) := same_upd nza
      try dsimp only [tNil] at nza ⊢
      generalize upd I5 za (HO.tup [V.int 0, V.int 1]) = I6 at eza sza ⊢
      clear nza
      refine ⟨_, rfl, za, rx, ((0 : Int) : Rat), y, rfl, tr_int eza, hy5.same sza, sr_int (by decide), sr_of (k := 25) y1 (p100 y2 (by decide)) (by decide), fun nr I7 t7 _ hnr => ?_⟩
      refine ⟨(by show 2 ≤ sizeLine; decide), fun zb1 nzb1 => ?_⟩
      have ezb1 : upd I7 zb1 (HO.tup [V.int 1, V.int 1]) zb1 = some (HO.tup [V.int 1, V.int 1]) := upd_same
      have szb1 : Same I7 (upd I7 zb1 (HO.tup [V.int 1, V.int 1])) := same_upd nzb1
      try dsimp only [tNil] at nzb1 ⊢
      generalize upd I7 zb1 (HO.tup [V.int 1, V.int 1]) = I8 at ezb1 szb1 ⊢
      clear nzb1
      refine ⟨(by show 2 ≤ sizeLine; decide), fun fl nfl => ?_⟩
      have efl : upd I8 fl (HO.lst [V.ref nr, V.ref zb1]) fl = some (HO.lst [V.ref nr, V.ref zb1]) := upd_same
      have sfl : Same I8 (upd I8 fl (HO.lst [V.ref nr, V.ref zb1])) := same_upd nfl
      try dsimp only [tNil] at nfl ⊢
      generalize upd I8 fl (HO.lst [V.ref nr, V.ref zb1]) = I9 at efl sfl ⊢
      clear nfl
      have t59 : Same I5 I9 := sza.trans (t7.trans (szb1.trans sfl))
      have hfl : RL I9 fl [rSub ((0 : Int) : Rat) y, ((1 : Int) : Rat)] := ⟨[nr, zb1], efl, .cons (sfl _ _ (szb1 _ _ hnr)) (.cons (sfl _ _ ezb1) .nil)⟩
      have hPI9 := hPI5.same t59
      have k9 : Kp p H0 I9 := (k4.trans kI5).trans (Kp.of t59)
      have hgl9 := hgl.kp hP0 k9
      have k09 := k0.trans k9
      clear sza szb1 sfl
      have wy : way = 0 ∨ way = 1 ∨ way = 2 ∨ way = 3 ∨ way = 4 ∨ way = 5 := by omega
      have nxt : ∀ (nl : Addr) (g : List Rat) (H' : Hp) (w4 w5 w6 w7 w8 w9 : Option V), FacB g → g.length ≤ 5 → Kp p H0 H' → Pen H' p lc (B + 3 + 20 * i + 20) → RL H' nl (stripQ (pmul qs g)) →
          ∃ (gl : Addr) (qs' : List Rat) (v4 v5 v6 v7 v8 v9 : Option V), [some (V.ref p), some (.ref r1), some (.ref r2), some (.ref nl), w4, w5, w6, w7, w8, w9] = [some (.ref p), some (.ref r1), some (.ref r2), some (.ref gl), v4, v5, v6, v7, v8, v9] ∧ Kp p H H' ∧ Pen H' p lc (B + 3 + 20 * ((i + 1 : Nat) : Int)) ∧ RL H' gl qs' ∧ qs'.length ≤ 1 + 4 * (i + 1) ∧ stripQ qs' = qs' ∧ SigB (i + 1) qs' := fun nl g H' w4 w5 w6 w7 w8 w9 fg lg kk hp hr => by
        obtain ⟨z1, z2⟩ := sg.next fg lq i3 lg
        exact ⟨nl, _, w4, w5, w6, w7, w8, w9, rfl, k0.trans kk, hp.more (by omega), hr, z2, stripQ_id (stripQ_stp _), z1⟩
      have l2 : (stripQ (pmul [rSub ((0 : Int) : Rat) y, ((1 : Int) : Rat)] [rSub ((0 : Int) : Rat) y, ((1 : Int) : Rat)])).length ≤ 3 := Nat.le_trans (stripQ_le _) (by rw [pmul_len]; show 2 + 2 - 1 ≤ 3; decide)
      have d0 := y.den_pos
      have sqr : ∀ (Hk : Hp) (Q : VK) (E : XK), Same I9 Hk → (∀ (l : Addr) (H' : Hp), Same Hk H' → RL H' l (stripQ (pmul [rSub ((0 : Int) : Rat) y, ((1 : Int) : Rat)] [rSub ((0 : Int) : Rat) y, ((1 : Int) : Rat)])) → Q (.ref l) H') → spLPT [.ref fl, .ref fl] Hk Q E := fun Hk Q E s k =>
        lpt_q (K := K) (ja := 19) (jb := 19) (ka := 25) (kb := 25) (hfl.same s) (hfl.same s) (by show 2 ≤ 40; decide) (by show 2 ≤ 40; decide) d0 (Nat.pow_pos (by decide)) d0 (Nat.pow_pos (by decide)) (fac_fr y1 y2) (fac_fr y1 y2) y2 y2 (Nat.le_refl _) (Nat.le_refl _) (by decide) (by decide) k
      rcases wy with rfl | rfl | rfl | rfl | rfl | rfl
      · refine ⟨_, rfl, rfl, _, rfl, ?_⟩
        refine iteT ?_
        refine ⟨_, rfl, _, rfl, ?_⟩
        try dsimp only [tNil, List.append_nil]
        refine sig_lpt (E := E0) hgl9 hfl sg (.fac y1 y2) lq i3 (by show 2 ≤ 5; decide) fun nl J1 u1 hnl => ?_
        refine ⟨_, rfl, rfl, _, rfl, ?_⟩
        refine iteF ?_
        refine ⟨_, rfl, rfl, _, rfl, ?_⟩
        refine iteF ?_
        refine ⟨_, rfl, rfl, _, rfl, ?_⟩
        refine iteF ?_
        refine ⟨_, rfl, rfl, _, rfl, ?_⟩
        refine iteF ?_
        exact nxt nl _ J1 _ _ _ _ _ _ (.fac y1 y2) (by show 2 ≤ 5; decide) (k9.trans (Kp.of u1)) ((hPI9.same u1).more (by omega)) hnl
      · refine ⟨_, rfl, rfl, _, rfl, ?_⟩
        refine iteF ?_
        refine ⟨_, rfl, rfl, _, rfl, ?_⟩
        refine iteT ?_
        refine ⟨_, rfl, _, rfl, _, rfl, ?_⟩
        try dsimp only [tNil, List.append_nil]
        refine sqr _ _ E0 (Same.refl _) fun sl J1 u1 hsl => ?_
        try dsimp only [tNil, List.append_nil]
        refine sig_lpt (E := E0) (hgl9.same u1) hsl sg (.fac2 y1 y2) lq i3 (by omega) fun nl J2 u2 hnl => ?_
        refine ⟨_, rfl, rfl, _, rfl, ?_⟩
        refine iteF ?_
        refine ⟨_, rfl, rfl, _, rfl, ?_⟩
        refine iteF ?_
        refine ⟨_, rfl, rfl, _, rfl, ?_⟩
        refine iteF ?_
        exact nxt nl _ J2 _ _ _ _ _ _ (.fac2 y1 y2) (by omega) (k9.trans (Kp.of (u1.trans u2))) ((hPI9.same (u1.trans u2)).more (by omega)) hnl
      · refine ⟨_, rfl, rfl, _, rfl, ?_⟩
        refine iteF ?_
        refine ⟨_, rfl, rfl, _, rfl, ?_⟩
        refine iteF ?_
        refine ⟨_, rfl, rfl, _, rfl, ?_⟩
        refine iteT ?_
        refine ⟨_, rfl, ?_⟩
        refine ⟨_, rfl, (by show 2 ≤ sizeLine; decide), fun b1 nb1 => ?_⟩
        have eb1 : upd I9 b1 (HO.tup [V.int (-2), V.int 1]) b1 = some (HO.tup [V.int (-2), V.int 1]) := upd_same
        have sb1 : Same I9 (upd I9 b1 (HO.tup [V.int (-2), V.int 1])) := same_upd nb1
        try dsimp only [tNil] at nb1 ⊢
        generalize upd I9 b1 (HO.tup [V.int (-2), V.int 1]) = L1 at eb1 sb1 ⊢
        clear nb1
        refine ⟨_, rfl, (by show 2 ≤ sizeLine; decide), fun b2 nb2 => ?_⟩
        have eb2 : upd L1 b2 (HO.tup [V.int (-3), V.int 1]) b2 = some (HO.tup [V.int (-3), V.int 1]) := upd_same
        have sb2 : Same L1 (upd L1 b2 (HO.tup [V.int (-3), V.int 1])) := same_upd nb2
        try dsimp only [tNil] at nb2 ⊢
        generalize upd L1 b2 (HO.tup [V.int (-3), V.int 1]) = L2 at eb2 sb2 ⊢
        clear nb2
        refine ⟨_, rfl, (by show 2 ≤ sizeLine; decide), fun b3 nb3 => ?_⟩
        have eb3 : upd L2 b3 (HO.tup [V.int (-1), V.int 2]) b3 = some (HO.tup [V.int (-1), V.int 2]) := upd_same
        have sb3 : Same L2 (upd L2 b3 (HO.tup [V.int (-1), V.int 2])) := same_upd nb3
        try dsimp only [tNil] at nb3 ⊢
        generalize upd L2 b3 (HO.tup [V.int (-1), V.int 2]) = L3 at eb3 sb3 ⊢
        clear nb3
        refine ⟨(by show 3 ≤ sizeLine; decide), fun bL nbL => ?_⟩
        have ebL : upd L3 bL (HO.lst [V.ref b1, V.ref b2, V.ref b3]) bL = some (HO.lst [V.ref b1, V.ref b2, V.ref b3]) := upd_same
        have sbL : Same L3 (upd L3 bL (HO.lst [V.ref b1, V.ref b2, V.ref b3])) := same_upd nbL
        try dsimp only [tNil] at nbL ⊢
        generalize upd L3 bL (HO.lst [V.ref b1, V.ref b2, V.ref b3]) = L4 at ebL sbL ⊢
        clear nbL
        have SbL : Same L4 L4 := Same.refl _
        have Sb3 := sbL.trans SbL
        have Sb2 := sb3.trans Sb3
        have Sb1 := sb2.trans Sb2
        have SL := sb1.trans Sb1
        have hPL := hPI9.same SL
        refine ⟨p, lc, bL, _, _, rfl, hPL, by omega, ebL, nd hPL ebL (fun _ z => by cases z), (by show 0 < 3; decide), (by show 3 < 1000000; decide), fun x J1 hx hJ1 kJ1 => ?_⟩
        have kJ : Kp p I9 J1 := (Kp.of SL).trans kJ1
        obtain ⟨rx, c, rfl, hc, fc⟩ : ∃ (rx : Addr) (c : Rat), x = .ref rx ∧ TR J1 rx c ∧ ∃ n : Int, c * ((2 : Nat) : Rat) = (n : Rat) ∧ n.natAbs ≤ 6 := by
          simp only [List.mem_cons, List.not_mem_nil, or_false] at hx
          have up : ∀ {Hk : Hp} {a : Addr} {o : HO}, Same Hk L4 → Hk a = some o → (∀ m, o ≠ HO.dK m) → J1 a = some o := fun s e n => kJ1 _ _ (nd hPL (s _ _ e) n) (s _ _ e)
          rcases hx with h | h | h
          · exact ⟨b1, ((-2 : Int) : Rat), h, tr_int (up Sb1 eb1 (fun _ z => by cases z)), -4, by decide +kernel, by decide⟩
          · exact ⟨b2, ((-3 : Int) : Rat), h, tr_int (up Sb2 eb2 (fun _ z => by cases z)), -6, by decide +kernel, by decide⟩
          · exact ⟨b3, ⟨-1, 2, by decide, by decide⟩, h, up Sb3 eb3 (fun _ z => by cases z), -1, by decide +kernel, by decide⟩
        refine ⟨(by show 2 ≤ sizeLine; decide), fun d1 nd1 => ?_⟩
        have ed1 : upd J1 d1 (HO.tup [V.int 0, V.int 1]) d1 = some (HO.tup [V.int 0, V.int 1]) := upd_same
        have sd1 : Same J1 (upd J1 d1 (HO.tup [V.int 0, V.int 1])) := same_upd nd1
        try dsimp only [tNil] at nd1 ⊢
        generalize upd J1 d1 (HO.tup [V.int 0, V.int 1]) = J2 at ed1 sd1 ⊢
        clear nd1
        refine ⟨(by show 2 ≤ sizeLine; decide), fun d2 nd2 => ?_⟩
        have ed2 : upd J2 d2 (HO.tup [V.int 1, V.int 1]) d2 = some (HO.tup [V.int 1, V.int 1]) := upd_same
        have sd2 : Same J2 (upd J2 d2 (HO.tup [V.int 1, V.int 1])) := same_upd nd2
        try dsimp only [tNil] at nd2 ⊢
        generalize upd J2 d2 (HO.tup [V.int 1, V.int 1]) = J3 at ed2 sd2 ⊢
        clear nd2
        refine ⟨(by show 3 ≤ sizeLine; decide), fun dl' ndl' => ?_⟩
        have edl' : upd J3 dl' (HO.lst [V.ref rx, V.ref d1, V.ref d2]) dl' = some (HO.lst [V.ref rx, V.ref d1, V.ref d2]) := upd_same
        have sdl' : Same J3 (upd J3 dl' (HO.lst [V.ref rx, V.ref d1, V.ref d2])) := same_upd ndl'
        try dsimp only [tNil] at ndl' ⊢
        generalize upd J3 dl' (HO.lst [V.ref rx, V.ref d1, V.ref d2]) = J4 at edl' sdl' ⊢
        clear ndl'
        have u14 := sd1.trans (sd2.trans sdl')
        have hdl : RL J4 dl' [c, ((0 : Int) : Rat), ((1 : Int) : Rat)] := ⟨[rx, d1, d2], edl', .cons (u14 _ _ hc) (.cons (sdl' _ _ (sd2 _ _ ed1)) (.cons (sdl' _ _ ed2) .nil))⟩
        have kJ4 : Kp p I9 J4 := kJ.trans (Kp.of u14)
        have hP4' := hJ1.same u14
        refine ⟨_, rfl, _, rfl, _, rfl, ?_⟩
        try dsimp only [tNil, List.append_nil]
        refine lpt_q (E := E0) (K := K) (ja := 1) (jb := 1) (ka := 3) (kb := 3) hdl hdl (by show 3 ≤ 40; decide) (by show 3 ≤ 40; decide) (by decide) (by decide) (by decide) (by decide) (root_fr fc) (root_fr fc) (by decide) (by decide) (by decide) (by decide) (by decide) (by decide) fun sl J5 u5 hsl => ?_
        have lr : (stripQ (pmul [c, ((0 : Int) : Rat), ((1 : Int) : Rat)] [c, ((0 : Int) : Rat), ((1 : Int) : Rat)])).length ≤ 5 := Nat.le_trans (stripQ_le _) (by rw [pmul_len]; show 3 + 3 - 1 ≤ 5; decide)
        refine sig_lpt ((hgl9.kp hPI9 kJ4).same u5) hsl sg (.root fc) lq i3 lr fun nl J6 u6 hnl => ?_
        refine ⟨_, rfl, rfl, _, rfl, ?_⟩
        refine iteF ?_
        refine ⟨_, rfl, rfl, _, rfl, ?_⟩
        refine iteF ?_
        exact nxt nl _ J6 _ _ _ _ _ _ (.root fc) lr (k9.trans (kJ4.trans (Kp.of (u5.trans u6)))) ((hP4'.same (u5.trans u6)).more (by omega)) hnl
      · refine ⟨_, rfl, rfl, _, rfl, ?_⟩
        refine iteF ?_
        refine ⟨_, rfl, rfl, _, rfl, ?_⟩
        refine iteF ?_
        refine ⟨_, rfl, rfl, _, rfl, ?_⟩
        refine iteF ?_
        refine ⟨_, rfl, rfl, _, rfl, ?_⟩
        refine iteT ?_
        refine ⟨_, rfl, ?_⟩
        refine ⟨_, _, rfl, rfl, (by unfold CPow; decide +kernel), (by show 2 ≤ sizeLine; decide), fun b1 nb1 => ?_⟩
        have eb1 : upd I9 b1 (HO.tup [V.int 1, V.int (10 ^ (6 : Int).toNat)]) b1 = some (HO.tup [V.int 1, V.int (10 ^ (6 : Int).toNat)]) := upd_same
        have sb1 : Same I9 (upd I9 b1 (HO.tup [V.int 1, V.int (10 ^ (6 : Int).toNat)])) := same_upd nb1
        try dsimp only [tNil] at nb1 ⊢
        generalize upd I9 b1 (HO.tup [V.int 1, V.int (10 ^ (6 : Int).toNat)]) = L1 at eb1 sb1 ⊢
        clear nb1
        refine ⟨_, rfl, _, _, rfl, rfl, (by unfold CPow; decide +kernel), (by show 2 ≤ sizeLine; decide), fun b2 nb2 => ?_⟩
        have eb2 : upd L1 b2 (HO.tup [V.int (-1), V.int (10 ^ (6 : Int).toNat)]) b2 = some (HO.tup [V.int (-1), V.int (10 ^ (6 : Int).toNat)]) := upd_same
        have sb2 : Same L1 (upd L1 b2 (HO.tup [V.int (-1), V.int (10 ^ (6 : Int).toNat)])) := same_upd nb2
        try dsimp only [tNil] at nb2 ⊢
        generalize upd L1 b2 (HO.tup [V.int (-1), V.int (10 ^ (6 : Int).toNat)]) = L2 at eb2 sb2 ⊢
        clear nb2
        refine ⟨_, _, rfl, rfl, (by unfold CPow; decide +kernel), (by show 2 ≤ sizeLine; decide), fun b3 nb3 => ?_⟩
        have eb3 : upd L2 b3 (HO.tup [V.int 1, V.int (10 ^ (12 : Int).toNat)]) b3 = some (HO.tup [V.int 1, V.int (10 ^ (12 : Int).toNat)]) := upd_same
        have sb3 : Same L2 (upd L2 b3 (HO.tup [V.int 1, V.int (10 ^ (12 : Int).toNat)])) := same_upd nb3
        try dsimp only [tNil] at nb3 ⊢
        generalize upd L2 b3 (HO.tup [V.int 1, V.int (10 ^ (12 : Int).toNat)]) = L3 at eb3 sb3 ⊢
        clear nb3
        refine ⟨_, rfl, _, _, rfl, rfl, (by unfold CPow; decide +kernel), (by show 2 ≤ sizeLine; decide), fun b4 nb4 => ?_⟩
        have eb4 : upd L3 b4 (HO.tup [V.int (-1), V.int (10 ^ (9 : Int).toNat)]) b4 = some (HO.tup [V.int (-1), V.int (10 ^ (9 : Int).toNat)]) := upd_same
        have sb4 : Same L3 (upd L3 b4 (HO.tup [V.int (-1), V.int (10 ^ (9 : Int).toNat)])) := same_upd nb4
        try dsimp only [tNil] at nb4 ⊢
        generalize upd L3 b4 (HO.tup [V.int (-1), V.int (10 ^ (9 : Int).toNat)]) = L4 at eb4 sb4 ⊢
        clear nb4
        refine ⟨(by show 4 ≤ sizeLine; decide), fun bL nbL => ?_⟩
        have ebL : upd L4 bL (HO.lst [V.ref b1, V.ref b2, V.ref b3, V.ref b4]) bL = some (HO.lst [V.ref b1, V.ref b2, V.ref b3, V.ref b4]) := upd_same
        have sbL : Same L4 (upd L4 bL (HO.lst [V.ref b1, V.ref b2, V.ref b3, V.ref b4])) := same_upd nbL
        try dsimp only [tNil] at nbL ⊢
        generalize upd L4 bL (HO.lst [V.ref b1, V.ref b2, V.ref b3, V.ref b4]) = L5 at ebL sbL ⊢
        clear nbL
        have SbL : Same L5 L5 := Same.refl _
        have Sb4 := sbL.trans SbL
        have Sb3 := sb4.trans Sb4
        have Sb2 := sb3.trans Sb3
        have Sb1 := sb2.trans Sb2
        have SL := sb1.trans Sb1
        have hPL := hPI9.same SL
        refine ⟨p, lc, bL, _, _, rfl, hPL, by omega, ebL, nd hPL ebL (fun _ z => by cases z), (by show 0 < 4; decide), (by show 4 < 1000000; decide), fun x J1 hx hJ1 kJ1 => ?_⟩
        have kJ : Kp p I9 J1 := (Kp.of SL).trans kJ1
        obtain ⟨rx, c, rfl, hc, fc⟩ : ∃ (rx : Addr) (c : Rat), x = .ref rx ∧ TR J1 rx c ∧ ∃ n : Int, c * ((10 ^ 12 : Nat) : Rat) = (n : Rat) ∧ n.natAbs ≤ 10 ^ 6 := by
          simp only [List.mem_cons, List.not_mem_nil, or_false] at hx
          have up : ∀ {Hk : Hp} {a : Addr} {o : HO}, Same Hk L5 → Hk a = some o → (∀ m, o ≠ HO.dK m) → J1 a = some o := fun s e n => kJ1 _ _ (nd hPL (s _ _ e) n) (s _ _ e)
          rcases hx with h | h | h | h
          · exact ⟨b1, ⟨1, 10 ^ 6, by decide +kernel, by decide +kernel⟩, h, (by have z := up Sb1 eb1 (fun _ z => by cases z); rw [show (10 : Int) ^ (6 : Int).toNat = ((10 ^ 6 : Nat) : Int) by decide +kernel] at z; exact z), 10 ^ 6, by decide +kernel, by decide +kernel⟩
          · exact ⟨b2, ⟨-1, 10 ^ 6, by decide +kernel, by decide +kernel⟩, h, (by have z := up Sb2 eb2 (fun _ z => by cases z); rw [show (10 : Int) ^ (6 : Int).toNat = ((10 ^ 6 : Nat) : Int) by decide +kernel] at z; exact z), -10 ^ 6, by decide +kernel, by decide +kernel⟩
          · exact ⟨b3, ⟨1, 10 ^ 12, by decide +kernel, by decide +kernel⟩, h, (by have z := up Sb3 eb3 (fun _ z => by cases z); rw [show (10 : Int) ^ (12 : Int).toNat = ((10 ^ 12 : Nat) : Int) by decide +kernel] at z; exact z), 1, by decide +kernel, by decide +kernel⟩
          · exact ⟨b4, ⟨-1, 10 ^ 9, by decide +kernel, by decide +kernel⟩, h, (by have z := up Sb4 eb4 (fun _ z => by cases z); rw [show (10 : Int) ^ (9 : Int).toNat = ((10 ^ 9 : Nat) : Int) by decide +kernel] at z; exact z), -1000, by decide +kernel, by decide +kernel⟩
        have kJ1' := hgl9.kp hPI9 kJ
        have hfl1 := hfl.kp hPI9 kJ
        refine ⟨_, rfl, _, rfl, _, rfl, ?_⟩
        try dsimp only [tNil, List.append_nil]
        refine lpt_q (E := E0) (K := K) (ja := 19) (jb := 19) (ka := 25) (kb := 25) hfl1 hfl1 (by show 2 ≤ 40; decide) (by show 2 ≤ 40; decide) d0 (Nat.pow_pos (by decide)) d0 (Nat.pow_pos (by decide)) (fac_fr y1 y2) (fac_fr y1 y2) y2 y2 (Nat.le_refl _) (Nat.le_refl _) (by decide) (by decide) fun sl J2 u2 hsl => ?_
        refine ⟨_, rfl, (by show 1 ≤ sizeLine; decide), fun dl' ndl' => ?_⟩
        have edl' : upd J2 dl' (HO.lst [V.ref rx]) dl' = some (HO.lst [V.ref rx]) := upd_same
        have sdl' : Same J2 (upd J2 dl' (HO.lst [V.ref rx])) := same_upd ndl'
        try dsimp only [tNil] at ndl' ⊢
        generalize upd J2 dl' (HO.lst [V.ref rx]) = J3 at edl' sdl' ⊢
        clear ndl'
        have hdl : RL J3 dl' [c] := ⟨[rx], edl', .cons (sdl' _ _ (u2 _ _ hc)) .nil⟩
        have fs := fac2_fr y1 y2
        have dd38 := dd_le y2
        refine ⟨sl, dl', _, [c], rfl, hsl.same sdl', hdl, by omega, by show 1 ≤ 500; decide, fun i => (fs i).sr (Nat.mul_pos d0 d0) (lt43 dd38 (by decide)) (lt43 (j := 55) (by decide +kernel) (by decide)), fun i => (small_fr fc i).sr (by decide) (lt43 (j := 40) (by decide +kernel) (by decide)) (lt43 (j := 20) (by decide +kernel) (by decide)), fun al J4 u4 hal => ?_⟩
        have u14 := u2.trans (sdl'.trans u4)
        have kJ4 : Kp p I9 J4 := kJ.trans (Kp.of u14)
        have la : (stripQ (padd (stripQ (pmul [rSub ((0 : Int) : Rat) y, ((1 : Int) : Rat)] [rSub ((0 : Int) : Rat) y, ((1 : Int) : Rat)])) [c])).length ≤ 3 := Nat.le_trans (stripQ_le _) (by rw [padd_len, List.length_singleton]; omega)
        try dsimp only [tNil, List.append_nil]
        refine sig_lpt (E := E0) (kJ1'.same u14) hal sg (.small y1 y2 fc) lq i3 (by omega) fun nl J6 u6 hnl => ?_
        refine ⟨_, rfl, rfl, _, rfl, ?_⟩
        refine iteF ?_
        exact nxt nl _ J6 _ _ _ _ _ _ (.small y1 y2 fc) (by omega) (k9.trans (kJ4.trans (Kp.of u6))) (((hJ1.same u14).same u6).more (by omega)) hnl
      · refine ⟨_, rfl, rfl, _, rfl, ?_⟩
        refine iteF ?_
        refine ⟨_, rfl, rfl, _, rfl, ?_⟩
        refine iteF ?_
        refine ⟨_, rfl, rfl, _, rfl, ?_⟩
        refine iteF ?_
        refine ⟨_, rfl, rfl, _, rfl, ?_⟩
        refine iteF ?_
        refine ⟨_, rfl, rfl, _, rfl, ?_⟩
        refine iteT ?_
        refine ⟨_, rfl, ?_⟩
        refine ⟨(by show 2 ≤ sizeLine; decide), fun d0' nd0' => ?_⟩
        have ed0' : upd I9 d0' (HO.tup [V.int 1, V.int 1]) d0' = some (HO.tup [V.int 1, V.int 1]) := upd_same
        have sd0' : Same I9 (upd I9 d0' (HO.tup [V.int 1, V.int 1])) := same_upd nd0'
        try dsimp only [tNil] at nd0' ⊢
        generalize upd I9 d0' (HO.tup [V.int 1, V.int 1]) = J1 at ed0' sd0' ⊢
        clear nd0'
        refine ⟨(by show 2 ≤ sizeLine; decide), fun d1 nd1 => ?_⟩
        have ed1 : upd J1 d1 (HO.tup [V.int 0, V.int 1]) d1 = some (HO.tup [V.int 0, V.int 1]) := upd_same
        have sd1 : Same J1 (upd J1 d1 (HO.tup [V.int 0, V.int 1])) := same_upd nd1
        try dsimp only [tNil] at nd1 ⊢
        generalize upd J1 d1 (HO.tup [V.int 0, V.int 1]) = J2 at ed1 sd1 ⊢
        clear nd1
        refine ⟨(by show 2 ≤ sizeLine; decide), fun d2 nd2 => ?_⟩
        have ed2 : upd J2 d2 (HO.tup [V.int 1, V.int 1]) d2 = some (HO.tup [V.int 1, V.int 1]) := upd_same
        have sd2 : Same J2 (upd J2 d2 (HO.tup [V.int 1, V.int 1])) := same_upd nd2
        try dsimp only [tNil] at nd2 ⊢
        generalize upd J2 d2 (HO.tup [V.int 1, V.int 1]) = J3 at ed2 sd2 ⊢
        clear nd2
        refine ⟨(by show 3 ≤ sizeLine; decide), fun dl' ndl' => ?_⟩
        have edl' : upd J3 dl' (HO.lst [V.ref d0', V.ref d1, V.ref d2]) dl' = some (HO.lst [V.ref d0', V.ref d1, V.ref d2]) := upd_same
        have sdl' : Same J3 (upd J3 dl' (HO.lst [V.ref d0', V.ref d1, V.ref d2])) := same_upd ndl'
        try dsimp only [tNil] at ndl' ⊢
        generalize upd J3 dl' (HO.lst [V.ref d0', V.ref d1, V.ref d2]) = J4 at edl' sdl' ⊢
        clear ndl'
        have u14 := sd0'.trans (sd1.trans (sd2.trans sdl'))
        have hdl : RL J4 dl' [((1 : Int) : Rat), ((0 : Int) : Rat), ((1 : Int) : Rat)] := ⟨[d0', d1, d2], edl', .cons (sdl' _ _ (sd2 _ _ (sd1 _ _ ed0'))) (.cons (sdl' _ _ (sd2 _ _ ed1)) (.cons (sdl' _ _ ed2) .nil))⟩
        try dsimp only [tNil, List.append_nil]
        refine sig_lpt (E := E0) (hgl9.same u14) hdl sg .one lq i3 (by show 3 ≤ 5; decide) fun nl J6 u6 hnl => ?_
        exact nxt nl _ J6 _ _ _ _ _ _ .one (by show 3 ≤ 5; decide) (k9.trans (Kp.of (u14.trans u6))) ((hPI9.same (u14.trans u6)).more (by omega)) hnl
      · refine ⟨_, rfl, rfl, _, rfl, ?_⟩
        refine iteF ?_
        refine ⟨_, rfl, rfl, _, rfl, ?_⟩
        refine iteF ?_
        refine ⟨_, rfl, rfl, _, rfl, ?_⟩
        refine iteF ?_
        refine ⟨_, rfl, rfl, _, rfl, ?_⟩
        refine iteF ?_
        refine ⟨_, rfl, rfl, _, rfl, ?_⟩
        refine iteF ?_
        exact ⟨gl, qs, _, _, _, _, _, _, rfl, k09, hPI9.more (by omega), hgl9, by omega, sq, sg.up⟩
    · rintro σ H0 ⟨gl, qs, v4, v5, v6, v7, v8, v9, rfl, k0, hP0, hgl, lq, sq, sg⟩
      have n3 : (1 + z).toNat ≤ 3 := by omega
      refine ⟨_, rfl, q gl qs H0 (hP0.more (by omega)) k0 hgl (by omega) sq ?_⟩
      obtain ⟨M, N, M0, N0, Mb, Nb, f⟩ := sg
      exact ⟨M, N, M0, N0, Nat.le_trans Mb (Nat.pow_le_pow_right (by decide) (by omega)), Nat.le_trans Nb (Nat.pow_le_pow_right (by decide) (by omega)), f⟩
end

end Vf

set_option maxRecDepth 100000
set_option maxHeartbeats 8000000
namespace Vf
open PySem PySem.Spec PyProof.Rows L2
/-! ### the law -/
open LamX (ExtN Tabs TabS)
theorem RT.dt {K : PySem.W.Frag} {H : Hp} {t : Addr} {qs : List Rat} (h : RT H t qs) : Dt K H (.ref t) (.tuple ((qs.map pq).map pairD)) := by
  obtain ⟨as, e, ta⟩ := h
  exact .tup (SqT.of e) ta.dts
theorem RL.dt {K : PySem.W.Frag} {H : Hp} {t : Addr} {qs : List Rat} (h : RL H t qs) : Dt K H (.ref t) (.list ((qs.map pq).map pairD)) := by
  obtain ⟨as, e, ta⟩ := h
  exact .lst (SqL.of e) ta.dts
theorem ne_same {a b : V} (h : a = b) : (!decide (a = b)) = false := by rw [decide_eq_true h]; rfl
theorem RT.kp {H H' : Hp} {p lc l : Addr} {B : Int} {qs : List Rat} (h : RT H l qs) (hP : Pen H p lc B) (k : Kp p H H') : RT H' l qs := by
  obtain ⟨as, e, t⟩ := h
  refine ⟨as, k _ _ ?_ e, t.kp hP k⟩
  obtain ⟨_, _, _, _, _, g1, _⟩ := hP
  exact ne_of e g1.1 (by intro z; cases z)
theorem Dt.keep {K : PySem.W.Frag} {H H' : Hp} {p : Addr} {v : V} {d : PyData} (h : Dt K (nw H H') v d) (e : ∃ o, H p = some o) : Dt K (wo p H') v d := h.mono fun b o z => wo_at (fun y => by
  obtain ⟨o', e⟩ := e
  rw [y] at z
  rw [(nw_get z).1] at e
  cases e) (nw_get z).2
theorem tc3_i {a b c : V} {σ : L2.St} {H : Hp} {k : List V → Hp → Prop} (h : k [a, b, c] H) : tCons (tC a) (tCons (tC b) (tCons (tC c) tNil)) σ H k := h
theorem tc1_i {a : V} {σ : L2.St} {H : Hp} {k : List V → Hp → Prop} (h : k [a] H) : tCons (tC a) tNil σ H k := h
theorem tnil_i {σ : L2.St} {H : Hp} {k : List V → Hp → Prop} (h : k [] H) : tNil σ H k := h
theorem TR.n {H H' : Hp} {r : Addr} {q : Rat} (h : TR H r q) (e : ExtN H H') : TR H' r q := e _ _ h (fun ps z => by cases z)
theorem PolyQ.n {K : PySem.W.Frag} {CP : Addr} {H H' : Hp} {a : Addr} {qs : List Rat} (h : PolyQ K CP H a qs) (e : ExtN H H') : PolyQ K CP H' a qs := by
  obtain ⟨da, ta, za, h1, h2, h3⟩ := h
  exact ⟨da, ta, za, e _ _ h1 (fun ps z => by cases z), e _ _ h2 (fun ps z => by cases z), h3.imp fun c p z => e _ _ z (fun ps z => by cases z)⟩
/-- an interval as it is passed, and what it is -/
def IvP (d e : PyData) (lo hi : Rat) : Prop := ∃ t b x c, partsD d = some (t, b) ∧ partsD e = some (x, c) ∧ 0 < b ∧ 0 < c ∧ Sm20 t ∧ Sm20 b ∧ Sm20 x ∧ Sm20 c ∧ lo * (b : Rat) = (t : Rat) ∧ hi * (c : Rat) = (x : Rat) ∧ t * c < x * b
theorem IvP.iv {d e : PyData} {lo hi : Rat} (h : IvP d e lo hi) : ivD d e ∧ SzIv d e := by
  obtain ⟨t, b, x, c, h1, h2, h3, h4, h5, h6, h7, h8, h9, h10, h11⟩ := h
  refine ⟨⟨t, b, x, c, h1, h2, h11⟩, fun t' b' x' c' g1 g2 => ?_⟩
  rw [h1] at g1
  rw [h2] at g2
  cases g1
  cases g2
  exact ⟨h3, h4, h5, h6, h7, h8⟩
theorem corners_q {K : PySem.W.Frag} {CP CN CI : Addr} {H : Hp} {Q : VK} {E : XK} {a : Addr} {v u w : V} {d e g : PyData} {A row : List Rat} {n : Nat} {lo hi : Rat} (hP : PolyQ K CP H a A) (hv : Dt K H v d) (hu : Dt K H u e) (hw : Dt K H w g) (I : IvP d e lo hi) (lA : A.length ≤ 13) (sg : SigB 3 A)
    (hn : dgD (A.length - 1) g = some n) (n15 : n ≤ 15 ∨ n = 60) (lr : row.length = n + 1) (hev : ∀ z, ev A (lo + z * (hi - lo)) = bn n (cf row) z (1 - z))
    (k : ∀ (r : Addr) (L Nr : Nat) (H' : Hp), Same H H' → RT H' r row → 0 < L → (n ≤ 15 → L ≤ 2 ^ 1010 ∧ Nr ≤ 2 ^ 2725) → (∀ i, Fr L Nr (cf row i)) → Q (.ref r) H') : spCorners K CP CN CI [.ref a, v, u, w] H Q E := by
  obtain ⟨M, N, M0, N0, Mb, Nb, hF⟩ := sg
  obtain ⟨iv, sz⟩ := I.iv
  have up : ∀ {z j : Nat}, z ≤ 2 ^ j → j < 1300 → z < 2 ^ 1300 := fun h hj => Nat.lt_of_le_of_lt h (Nat.pow_lt_pow_right (by decide) hj)
  refine ⟨a, v, u, w, d, e, g, A, rfl, hP, lA, hv, hu, hw, sz, fun z => absurd iv z, fun _ => ⟨fun z => (by rw [hn] at z; cases z), fun m hm => ?_⟩⟩
  rw [hn] at hm
  cases hm
  refine ⟨row, M, N, lo, hi, fun t b x c g1 g2 => ?_, hF, M0, up Mb (by decide), up Nb (by decide), lr, hev, fun r L Nr H' s hr L0 Lb Nb' fr => k r L Nr H' s hr L0 (fun n15 => ⟨?_, ?_⟩) fr⟩
  · obtain ⟨t', b', x', c', h1, h2, _, _, _, _, _, _, h9, h10, _⟩ := I
    rw [h1] at g1
    rw [h2] at g2
    cases g1
    cases g2
    exact ⟨h9, h10⟩
  · refine Nat.le_trans Lb (Nat.le_trans (Nat.mul_le_mul_right _ Mb) ?_)
    rw [← Nat.pow_add]
    have : n * (n + 1) ≤ 15 * 16 := Nat.mul_le_mul n15 (by omega)
    exact Nat.pow_le_pow_right (by decide) (by omega)
  · refine Nat.le_trans Nb' (Nat.le_trans (Nat.mul_le_mul_right _ Nb) ?_)
    rw [← Nat.pow_add]
    have : n * (n + 1) ≤ 15 * 16 := Nat.mul_le_mul n15 (by omega)
    exact Nat.pow_le_pow_right (by decide) (by omega)
theorem why_ivE {K : PySem.W.Frag} {C : Nat → Addr} {T : List (Addr × Str)} {t : XK → TE} {i : Nat} {σ : L2.St} {H : Hp} {R : V → Hp → Prop} {bd : Addr} {v u : V} {d e : PyData} (hT : LamX.Tabs T H) (hv : σ[i]? = some (some (.ref bd))) (hb : H bd = some (.tup [v, u])) (hd : Dt K H v d) (he : Dt K H u e) (hs : small (.tuple [d, e]))
    (run : ∀ (H1 : Hp) (Q k : VK), LamX.ExtN H H1 → RaisesI (C 0) H1 v u (WhyE K C Q) → t (WhyE K C Q) σ H1 k) (rest : ∀ H', LamX.ExtN H H' → LamX.Tabs T H' → R (.bl false) H') :
    tOp (rNeT K) (LamX.tLam T (TWhy K C) t) (tTup (tCons (tC (V.str "interval")) (tCons (tCB (fun xs H Q => ∃ v d, xs = [v] ∧ Dt K H v d ∧ small d ∧ Q (.str d.shown) H) (tCons (tVar i) tNil)) tNil))) σ H R := by
  refine ⟨hT, fun H1 eN T1 => ?_⟩
  intro H2 k s12
  have eN2 : LamX.ExtN H H2 := fun b o e n => s12 b o (eN b o e n)
  refine run H2 _ k eN2 (fun dd H3 s3 n3 e3 => .inl ⟨rfl, dd, v, u, d, e, rfl, e3, (hd.n eN2).mono s3, (he.n eN2).mono s3, hs, fun tt H4 s4 e4 => ?_⟩)
  have eN4 : LamX.ExtN H H4 := fun b o e n => s4 _ _ (s3 _ _ (eN2 b o e n))
  refine ⟨_, hv, .ref bd, .tuple [d, e], rfl, .tup (SqT.of (eN4 _ _ hb (fun ps z => by cases z))) (.cons (hd.n eN4) (.cons (he.n eN4) .nil)), hs, (by show 2 ≤ sizeLine; decide), fun p np => ?_⟩
  have s5 : Same H4 (upd H4 p (HO.tup [V.str "interval", V.str (PyData.tuple [d, e]).shown])) := same_upd np
  have pl : (PyData.tuple [.str "interval", .str (PyData.tuple [d, e]).shown]).plain = true := by simp [PyData.plain, PyData.plainAll]
  refine ⟨.tuple [.str "interval", .str (PyData.tuple [d, e]).shown], .tuple [.str "interval", .str (PyData.tuple [d, e]).shown], .tup (SqT.of (s5 _ _ e4)) (.cons (.str _) (.cons (.str _) .nil)), .tup (SqT.of upd_same) (.cons (.str _) (.cons (.str _) .nil)), pl, pl, (by simp [PyData.depth, PyData.depthAll]), ?_⟩
  rw [SeqAt.eqv_refl_plain _ pl]
  exact rest _ (fun b o e n => s5 _ _ (eN4 b o e n)) ((((T1.ext s12).ext s3).ext s4).ext s5)
theorem why_noE {K : PySem.W.Frag} {C : Nat → Addr} {T : List (Addr × Str)} {t : XK → TE} {i : Nat} {σ : L2.St} {H : Hp} {R : V → Hp → Prop} {v : V} {d : PyData} (hT : LamX.Tabs T H) (hv : σ[i]? = some (some v)) (hd : Dt K H v d) (hs : small d)
    (run : ∀ (H1 : Hp) (Q k : VK), LamX.ExtN H H1 → RaisesN (C 1) H1 (.str "degree") v (WhyE K C Q) → t (WhyE K C Q) σ H1 k) (rest : ∀ H', LamX.ExtN H H' → LamX.Tabs T H' → R (.bl false) H') :
    tOp (rNeT K) (LamX.tLam T (TWhy K C) t) (tTup (tCons (tC (V.str "number")) (tCons (tC (V.str "degree")) (tCons (tCB (fun xs H Q => ∃ v d, xs = [v] ∧ Dt K H v d ∧ small d ∧ Q (.str d.shown) H) (tCons (tVar i) tNil)) tNil)))) σ H R := by
  refine ⟨hT, fun H1 eN T1 => ?_⟩
  intro H2 k s12
  have eN2 : LamX.ExtN H H2 := fun b o e n => s12 b o (eN b o e n)
  refine run H2 _ k eN2 (fun dd H3 s3 n3 e3 => .inr ⟨rfl, dd, "degree", v, d, rfl, e3, (hd.n eN2).mono s3, hs, fun tt H4 s4 e4 => ?_⟩)
  have eN4 : LamX.ExtN H H4 := fun b o e n => s4 _ _ (s3 _ _ (eN2 b o e n))
  refine ⟨_, hv, v, d, rfl, hd.n eN4, hs, (by show 3 ≤ sizeLine; decide), fun p np => ?_⟩
  have s5 : Same H4 (upd H4 p (HO.tup [V.str "number", V.str "degree", V.str d.shown])) := same_upd np
  have pl : (PyData.tuple [.str "number", .str "degree", .str d.shown]).plain = true := by simp [PyData.plain, PyData.plainAll]
  refine ⟨.tuple [.str "number", .str "degree", .str d.shown], .tuple [.str "number", .str "degree", .str d.shown], .tup (SqT.of (s5 _ _ e4)) (.cons (.str _) (.cons (.str _) (.cons (.str _) .nil))), .tup (SqT.of upd_same) (.cons (.str _) (.cons (.str _) (.cons (.str _) .nil))), pl, pl, (by simp [PyData.depth, PyData.depthAll]), ?_⟩
  rw [SeqAt.eqv_refl_plain _ pl]
  exact rest _ (fun b o e n => s5 _ _ (eN4 b o e n)) ((((T1.ext s12).ext s3).ext s4).ext s5)
section
variable {P : Program} {w : World} {K : PySem.W.Frag} {mg : Str → Option Value} {base : Heap} {C : Nat → Addr} {CP CR : Addr}
abbrev crPs : List Str := ["poly", "low", "high", "degree"]
abbrev sLaw : Stmt := topS 70
theorem scLaw : FnScope ["_law_script", "_law_pen_here", "_law_row", "_law_lap", "_law_low", "_law_high", "_law_one", "_law_least", "_law_n", "_law_made", "_law_a", "_law_b", "_law_told", "_law_x", "_law_bad", "_law_odd"] ["_law_script"] (defScope sLaw) := ⟨rfl, rfl, rfl, by decide +kernel, rfl, by decide +kernel, by decide +kernel⟩
theorem ok_law {f : Addr} {fd : FuncData} (F : Fun K "law" "law" sLaw f fd) (T : Bk mg) (W : W9 K mg C) (hm1 : M1 base) (hmax : mg "max" = none) (c Pt : Addr) (hfc : fd.code = .ref c) (hTB : LamX.TabB base mg c Pt) (Y : Yy K mg) (PM : PoM P w K mg base CP CR)
    (G__law_pen : Df P w K mg base "_law_pen" 1 ["_law_script"] (spPen K)) (G__law_draw : Df P w K mg base "_law_draw" 1 ["_law_pen_here", "_law_many"] spDraw) (G__law_pick : Df P w K mg base "_law_pick" 2 ["_law_pen_here", "_law_some"] spPick)
    (G__law_interval : Df P w K mg base "_law_interval" 4 ["_law_pen_here", "_law_most"] spIv) (G__law_drawn : Df P w K mg base "_law_drawn" 4 ["_law_pen_here", "_law_degree", "_law_most"] spDrawn) (G__law_signed : Df P w K mg base "_law_signed" 5 ["_law_pen_here", "_law_low", "_law_high"] spSigned) (G__law_from_corners : Df P w K mg base "_law_from_corners" 5 ["_law_row", "_law_low", "_law_high"] spFC)
    (G__law_bad_interval : Df P w K mg base "_law_bad_interval" 3 ["_law_pen_here"] (spBadI K)) (G__law_passed : Df P w K mg base "_law_passed" 3 ["_law_pen_here", "_law_ratio_here"] (spPassed K)) (G__law_is_ratio : Df P w K mg base "_law_is_ratio" 2 ["_law_thing"] spIsRt) (G__law_made_poly : Df P w K mg base "_law_made_poly" 7 ["_law_pen_here", "_law_one"] (spMade K CP))
    (G_corners : Dx P w K mg base "corners" 6 ["poly", "low", "high", "degree"] (spCorners K CP (C 1) (C 0))) {dsC : List Value} (v3C : Vals [V.non] dsC) (b3C : Binds K G_corners.fd crPs dsC) {gC : List Value → List Value → List Value} (bkC : KBn K G_corners.fd crPs 3 ["degree"] gC (fun vs zs => vs ++ zs)) : FnG P w K mg base CX0 12 f fd ["_law_script"] (spLaw K Pt) := by
  refine fnG_of1 F scLaw (fun vs H Q E h => ?_) (fun cdv A outer s H0 vs Q E hgu hr hcd h => ?_)
  · obtain ⟨a, ns, rfl, _⟩ := h
    rfl
  · obtain ⟨sc, ns, rfl, hS, hns, hPt, kend⟩ := h
    have hu64 := hr.units
    have hu160 : (A.deeper (envOfC "law" (defScope sLaw) s.heap.objs.size f cdv)).units + 160 < cLine := by have := hr.un; omega
    have hcd : cdv = .ref c := hcd.symm.trans hfc
    refine ⟨_, (pss_cons (ps_set (i := 1) scLaw.nd rfl (Or.inl rfl) (pe_call G__law_pen.ok (hr.mono (by decide)) rfl G__law_pen.m G__law_pen.kp G__law_pen.b .nil pass0 (pa_cons (pv 0) pa_nil)))
  (pss_cons (ps_set (i := 2) scLaw.nd rfl (Or.inl rfl) (pe_call G_corners.ok (hr.mono (by decide)) rfl G_corners.m G_corners.kp G_corners.b .nil passL (pa_cons (pe_make PM.mkI PM.okI (hr.mono (by decide)) rfl PM.C.m PM.bI .nil passL (pa_cons (pe_tup (pa_cons pe_int (pa_cons pe_int pa_nil))) pa_nil)) (pa_cons pe_int (pa_cons pe_int (pa_cons pe_int pa_nil))))))
  (pss_cons (ps_if (PW.pt (pw_or (pt_cmpR op_ne (pe_callB call_len_seq (by rfl) T.len (by decide +kernel) (pa_cons (pv 2) pa_nil)) pe_int (nomark _)) (pw_or (pt_cmpR (op_neT hu64 hm1) (pe_ix ix_tup (pv 2) pe_int (fun _ _ => rfl)) (pe_tup (pa_cons pe_int (pa_cons pe_int pa_nil))) (nomark _)) (pw_or1 (pt_cmpR (op_neT hu64 hm1) (pe_ix ix_tup (pv 2) pe_int (fun _ _ => rfl)) (pe_tup (pa_cons pe_int (pa_cons pe_int pa_nil))) (nomark _))))))
    (pss_one (ps_ret pe_bl))
    pss_nil)
  (pss_cons (ps_for PassesOwn.never rfl (pi_range1 (by rfl) T.range (pa_cons pe_int pa_nil)) (pg_name (i := 3) scLaw.nd rfl (Or.inl rfl))
    (pss_cons (ps_asg (pe_call G__law_interval.ok (hr.mono (by decide)) rfl G__law_interval.m G__law_interval.kp G__law_interval.b .nil pass0 (pa_cons (pv 1) (pa_cons (pe_call G__law_pick.ok (hr.mono (by decide)) rfl G__law_pick.m G__law_pick.kp G__law_pick.b .nil pass0 (pa_cons (pv 1) (pa_cons (pe_lst (pa_cons pe_int (pa_cons pe_int pa_nil))) pa_nil))) pa_nil))) (pg_tup (by rfl) (pgs_cons (pg_name (i := 4) scLaw.nd rfl (Or.inr rfl)) (pgs_cons (pg_name (i := 5) scLaw.nd rfl (Or.inr rfl)) pgs_nil))))
    (pss_cons (ps_set (i := 6) scLaw.nd rfl (Or.inl rfl) (pe_call G__law_drawn.ok (hr.mono (by decide)) rfl G__law_drawn.m G__law_drawn.kp G__law_drawn.b .nil pass0 (pa_cons (pv 1) (pa_cons (pe_call G__law_pick.ok (hr.mono (by decide)) rfl G__law_pick.m G__law_pick.kp G__law_pick.b .nil pass0 (pa_cons (pv 1) (pa_cons (pe_lst (pa_cons pe_int (pa_cons pe_int pa_nil))) pa_nil))) (pa_cons (pe_call G__law_pick.ok (hr.mono (by decide)) rfl G__law_pick.m G__law_pick.kp G__law_pick.b .nil pass0 (pa_cons (pv 1) (pa_cons (pe_lst (pa_cons pe_int (pa_cons (pe_op op_pow pe_int pe_int) pa_nil))) pa_nil))) pa_nil)))))
    (C8.pss_cut (ps_if (pt_cmpR op_eq (pe_call G__law_draw.ok (hr.mono (by decide)) rfl G__law_draw.m G__law_draw.kp G__law_draw.b .nil pass0 (pa_cons (pv 1) (pa_cons pe_int pa_nil))) pe_int (nomark _))
      (pss_one (ps_set (i := 6) scLaw.nd rfl (Or.inl rfl) (pe_call G__law_pick.ok (hr.mono (by decide)) rfl G__law_pick.m G__law_pick.kp G__law_pick.b .nil pass0 (pa_cons (pv 1) (pa_cons (pe_lst (pa_cons (pe_lst pa_nil) (pa_cons (pe_lst (pa_cons (pe_tup (pa_cons pe_int (pa_cons pe_int pa_nil))) pa_nil)) (pa_cons (pe_call G__law_signed.ok (hr.mono (by decide)) rfl G__law_signed.m G__law_signed.kp G__law_signed.b .nil pass0 (pa_cons (pv 1) (pa_cons (pv 4) (pa_cons (pv 5) pa_nil)))) pa_nil)))) pa_nil)))))
      pss_nil)
    (pss_cons (ps_set (i := 7) scLaw.nd rfl (Or.inl rfl) (pe_callB (cr_max rfl) (by rfl) hmax (by decide +kernel) (pa_cons (pe_lst (pa_cons pe_int (pa_cons (pe_op op_sub (pe_callB call_len_seq (by rfl) T.len (by decide +kernel) (pa_cons (pv 6) pa_nil)) pe_int) pa_nil))) pa_nil)))
    (pss_cons (ps_asg (pe_tup (pa_cons (pe_op op_add (pv 7) (pe_call G__law_draw.ok (hr.mono (by decide)) rfl G__law_draw.m G__law_draw.kp G__law_draw.b .nil pass0 (pa_cons (pv 1) (pa_cons pe_int pa_nil)))) (pa_cons (pe_call G__law_made_poly.ok (hr.mono (by decide)) rfl G__law_made_poly.m G__law_made_poly.kp G__law_made_poly.b .nil pass0 (pa_cons (pv 1) (pa_cons (pv 6) pa_nil))) pa_nil))) (pg_tup (by rfl) (pgs_cons (pg_name (i := 8) scLaw.nd rfl (Or.inl rfl)) (pgs_cons (pg_name (i := 9) scLaw.nd rfl (Or.inr rfl)) pgs_nil))))
    (pss_cons (ps_par (i := 10) (j := 11) (by rfl) scLaw.nd rfl rfl (by decide) rfl rfl (pa_cons (pe_call G__law_passed.ok (hr.mono (by decide)) rfl G__law_passed.m G__law_passed.kp G__law_passed.b .nil pass0 (pa_cons (pv 1) (pa_cons (pv 4) pa_nil))) (pa_cons (pe_call G__law_passed.ok (hr.mono (by decide)) rfl G__law_passed.m G__law_passed.kp G__law_passed.b .nil pass0 (pa_cons (pv 1) (pa_cons (pv 5) pa_nil))) pa_nil)) (by rfl))
    (pss_cons (ps_set (i := 12) scLaw.nd rfl (Or.inl rfl) (pe_call G__law_pick.ok (hr.mono (by decide)) rfl G__law_pick.m G__law_pick.kp G__law_pick.b .nil pass0 (pa_cons (pv 1) (pa_cons (pe_lst (pa_cons (pe_call G_corners.ok (hr.mono (by decide)) rfl G_corners.m G_corners.kp G_corners.b .nil passL (pa_cons (pv 9) (pa_cons (pv 10) (pa_cons (pv 11) (pa_cons (pv 8) pa_nil))))) (pa_cons (pe_callN G_corners.ok (hr.mono (by decide)) rfl G_corners.m G_corners.kp bkC passL (pa_cons (pv 9) (pa_cons (pv 10) (pa_cons (pv 11) pa_nil))) (pk_cons (pv 8) pk_nil)) pa_nil))) pa_nil))))
    (pss_cons (ps_if (PW.pt (pw_or (pt_not (pt_val (pe_callB call_isi (by rfl) T.isinstance (by decide +kernel) (pa_cons (pv 12) (pa_cons (pe_bltn (v := V.ty "tuple") (by rfl) T.tuple (by decide +kernel) rfl) pa_nil))))) (pw_or (pt_cmpR op_ne (pe_callB call_len_seq (by rfl) T.len (by decide +kernel) (pa_cons (pv 12) pa_nil)) (pe_op op_add (pv 8) pe_int) (nomark _)) (pw_or1 (pt_cmpR (op_neT hu64 hm1) (pe_lc (own := [("_law_x", 13)]) (g := (gName 13)) (tt := _) rfl scLaw.nd (pi_seq (pv 12)) (blkOk_by (N := ["_law_script", "_law_pen_here", "_law_row", "_law_lap", "_law_low", "_law_high", "_law_one", "_law_least", "_law_n", "_law_made", "_law_a", "_law_b", "_law_told", "_law_x", "_law_bad", "_law_odd"]) (sc := defScope sLaw) (by decide +kernel)) (fun _ _ _ _ _ => pg_name (i := 13) scLaw.nd rfl (Or.inl rfl)) (fun _ _ _ _ _ => pts_one (pt_not (pt_val (pe_call G__law_is_ratio.ok (hr.mono (by decide)) rfl G__law_is_ratio.m G__law_is_ratio.kp G__law_is_ratio.b .nil pass0 (pa_cons (pv 13) pa_nil))))) (fun _ _ _ _ _ => (pv 13))) (pe_lst pa_nil) (nomark _))))))
      (pss_one (ps_ret pe_bl))
      pss_nil)
    (pss_cons (ps_if (pt_cmpR (op_neT hu64 hm1) (pe_call G__law_from_corners.ok (hr.mono (by decide)) rfl G__law_from_corners.m G__law_from_corners.kp G__law_from_corners.b .nil pass0 (pa_cons (pe_callTy call_list_of (by rfl) T.list (by decide +kernel) (pa_cons (pv 12) pa_nil)) (pa_cons (pv 4) (pa_cons (pv 5) pa_nil)))) (pv 6) (nomark _))
      (pss_one (ps_ret pe_bl))
      pss_nil)
    (pss_cons (ps_if (PW.pt (pw_or (pt_cmpR (op_neT hu64 hm1) (pe_call G_corners.ok (hr.mono (by decide)) rfl G_corners.m G_corners.kp b3C v3C passL (pa_cons (pv 9) (pa_cons (pv 10) (pa_cons (pv 11) pa_nil)))) (pe_call G_corners.ok (hr.mono (by decide)) rfl G_corners.m G_corners.kp G_corners.b .nil passL (pa_cons (pv 9) (pa_cons (pv 10) (pa_cons (pv 11) (pa_cons (pv 7) pa_nil))))) (nomark _)) (pw_or1 (pt_cmpR (op_neT hu64 hm1) (pe_call G_corners.ok (hr.mono (by decide)) rfl G_corners.m G_corners.kp G_corners.b .nil passL (pa_cons (pv 9) (pa_cons (pv 10) (pa_cons (pv 11) (pa_cons pe_non pa_nil))))) (pe_call G_corners.ok (hr.mono (by decide)) rfl G_corners.m G_corners.kp b3C v3C passL (pa_cons (pv 9) (pa_cons (pv 10) (pa_cons (pv 11) pa_nil)))) (nomark _)))))
      (pss_one (ps_ret pe_bl))
      pss_nil)
    (pss_cons (ps_asg (pe_tup (pa_cons (pe_call G__law_bad_interval.ok (hr.mono (by decide)) rfl G__law_bad_interval.m G__law_bad_interval.kp G__law_bad_interval.b .nil pass0 (pa_cons (pv 1) pa_nil)) (pa_cons (pe_call G__law_pick.ok (hr.mono (by decide)) rfl G__law_pick.m G__law_pick.kp G__law_pick.b .nil pass0 (pa_cons (pv 1) (pa_cons (pe_lst (pa_cons (pe_op op_sub (pv 7) pe_int) (pa_cons (pe_un un_neg pe_int) (pa_cons pe_int (pa_cons pe_bl (pa_cons pe_str (pa_cons (pe_tup (pa_cons pe_int (pa_cons pe_int pa_nil))) (pa_cons (pe_op op_pow pe_int pe_int) pa_nil)))))))) pa_nil))) pa_nil))) (pg_tup (by rfl) (pgs_cons (pg_name (i := 14) scLaw.nd rfl (Or.inr rfl)) (pgs_cons (pg_name (i := 15) scLaw.nd rfl (Or.inr rfl)) pgs_nil))))
    (pss_cons (ps_if (pt_cmpR (op_neT hu64 hm1) (LamX.pe_lamcall (T := Ts Pt) (TT := TWhy K C) (k := 7) rfl Y.m Y.kp Y.lk Y.hc Y.b scWhy rfl (.inl rfl) (why_gives W hgu hu160 hm1) hTB hcd (by rw [qual_eq]; exact ts_mem Pt) (by rw [qual_eq]; exact ts_only Pt) (hr.mono (by decide)) (show LamX.LamS (defScope sLaw) _ from LamX.lamS_by (by decide +kernel)) rfl (fun _ _ _ _ _ => rfl) (fun A' out' s' H' E' f' c' hr' => (pe_call G_corners.ok (hr'.mono (by decide)) rfl G_corners.m G_corners.kp G_corners.b .nil (E := E') (passes_call (takes_of rfl rfl rfl rfl) (fun _ _ _ _ h => h)) (pa_cons (pv 9) (pa_cons (pe_ix (r := rIxT K) ix_tup (pv 14) pe_int (fun _ _ => rfl)) (pa_cons (pe_ix (r := rIxT K) ix_tup (pv 14) pe_int (fun _ _ => rfl)) (pa_cons (pv 15) pa_nil))))))) (pe_tup (pa_cons pe_str (pa_cons (pe_callB (id := "repr") (call_reprD hgu hr hm1) (by rfl) W.repr (by decide +kernel) (pa_cons (pv 14) pa_nil)) pa_nil))) (nomark _))
      (pss_one (ps_ret pe_bl))
      pss_nil)
    (pss_one (ps_if (pt_cmpR (op_neT hu64 hm1) (LamX.pe_lamcall (T := Ts Pt) (TT := TWhy K C) (k := 7) rfl Y.m Y.kp Y.lk Y.hc Y.b scWhy rfl (.inl rfl) (why_gives W hgu hu160 hm1) hTB hcd (by rw [qual_eq]; exact ts_mem Pt) (by rw [qual_eq]; exact ts_only Pt) (hr.mono (by decide)) (show LamX.LamS (defScope sLaw) _ from LamX.lamS_by (by decide +kernel)) rfl (fun _ _ _ _ _ => rfl) (fun A' out' s' H' E' f' c' hr' => (pe_call G_corners.ok (hr'.mono (by decide)) rfl G_corners.m G_corners.kp G_corners.b .nil (E := E') (passes_call (takes_of rfl rfl rfl rfl) (fun _ _ _ _ h => h)) (pa_cons (pv 9) (pa_cons (pv 4) (pa_cons (pv 5) (pa_cons (pv 15) pa_nil))))))) (pe_tup (pa_cons pe_str (pa_cons pe_str (pa_cons (pe_callB (id := "repr") (call_reprD hgu hr hm1) (by rfl) W.repr (by decide +kernel) (pa_cons (pv 15) pa_nil)) pa_nil)))) (nomark _))
      (pss_one (ps_ret pe_bl))
      pss_nil)))))))))))))))
  (pss_one (ps_ret pe_bl)))))), ?_⟩
    refine ⟨_, rfl, sc, ns, rfl, hS, hns, fun p lc H1 s1 np nlc hP => ?_⟩
    have T1 : Tabs (Ts Pt) H1 := fun y hy => by
      rw [List.mem_singleton.mp hy]
      exact TabS.nil (s1 _ _ hPt)
    have nd : ∀ {G : Hp} {B : Int} {a : Addr} {o : HO}, Pen G p lc B → G a = some o → (∀ m, o ≠ HO.dK m) → a ≠ p := fun hP e n z => by
      obtain ⟨_, _, _, _, _, g1, _⟩ := hP
      rw [z, g1.1] at e
      cases e
      exact n _ rfl
    -- x by degree 60
    refine ⟨(by show 2 ≤ sizeLine; decide), fun t0 nt0 => ?_⟩
    have et0 : upd H1 t0 (HO.tup [V.int 0, V.int 1]) t0 = some (HO.tup [V.int 0, V.int 1]) := upd_same
    have st0 : Same H1 (upd H1 t0 (HO.tup [V.int 0, V.int 1])) := same_upd nt0
    try dsimp only [tNil] at nt0 ⊢
    generalize upd H1 t0 (HO.tup [V.int 0, V.int 1]) = H2 at et0 st0 ⊢
    clear nt0
    have hd0 : Dt K H2 (.ref t0) (.tuple [.int 0, .int 1]) := .tup (SqT.of et0) (.cons (.int _) (.cons (.int _) .nil))
    refine poly_made hd0 (fun ds h => by cases h; decide) (fun ps h => ?_) (fun z => by cases z)
    have eps : ps = [(0, 1), (1, 1)] := (Option.some.inj h).symm
    subst eps
    refine ⟨fun q hq => ?_, fun md H3 s3 nmd made => ?_⟩
    · have : q.2 = 1 := by
        simp only [List.mem_cons, List.not_mem_nil, or_false] at hq
        rcases hq with h | h <;> rw [h]
      rw [this]
      exact Nat.one_lt_pow (by decide) (by decide)
    have hPm : PolyQ K CP H3 md [0, 1] := made
    let r60 : List Rat := tab 61 fun k => ((k : Rat) + 0) * (1 / 60 : Rat)
    have sg60 : SigB 3 [0, 1] := ⟨1, 1, by decide, by decide, Nat.pow_pos (by decide), Nat.pow_pos (by decide), fun i => by
      match i with
      | 0 => exact Fr.zero _ _
      | 1 => exact ⟨1, by decide +kernel, by decide⟩
      | i + 2 => rw [cf_ge (by show 2 ≤ _; omega)]; exact Fr.zero _ _⟩
    refine tc3_i ?_
    refine corners_q (n := 60) (row := r60) (lo := 0) (hi := 1) hPm (.int 0) (.int 1) (.int 60) ⟨0, 1, 1, 1, rfl, rfl, by decide, by decide, by unfold Sm20; decide, by unfold Sm20; decide, by unfold Sm20; decide, by unfold Sm20; decide, by decide +kernel, by decide +kernel, by decide⟩ (by show 2 ≤ 13; decide) sg60 (by rfl) (.inr rfl) (tab_len _ _) (fun z => ?_) fun rr L Nr H4 s4 hrr L0 _ fr => ?_
    · rw [bn_ext (c := fun k => ((k : Rat) + 0) * (1 / 60 : Rat)) fun k hk => by rw [cf_tab, if_pos (by omega)], bn_lin]
      show (0 : Rat) + (0 + z * (1 - 0)) * (1 + (0 + z * (1 - 0)) * 0) = (((60 : Nat) : Rat) * z + 0) * (1 / 60)
      have : ((60 : Nat) : Rat) = 60 := rfl
      rw [this]
      grind
    obtain ⟨ras, rae, rat⟩ := id hrr
    have lras := rat.lenQ
    have l61 : r60.length = 61 := tab_len _ _
    refine ⟨_, rfl, rr, _, rfl, .inr (SqT.of rae), rfl, _, rfl, ?_⟩
    rw [ne_same (by rw [List.length_map, lras, l61]; rfl)]
    refine iteF ?_
    obtain ⟨ra1, ga1, hra1⟩ := rat.getQ (i := 1) (by rw [l61]; decide)
    obtain ⟨ra2, ga2, hra2⟩ := rat.getQ (i := 60) (by rw [l61]; decide)
    have hra1 : H4 ra1 = some (.tup [.int 1, .int 60]) := by
      have e : pq (cf r60 1) = (1, 60) := by rw [cf_tab, if_pos (by decide)]; decide +kernel
      have z : H4 ra1 = some (.tup [.int (pq (cf r60 1)).1, .int (pq (cf r60 1)).2]) := hra1
      rw [e] at z
      exact z
    have hra2 : H4 ra2 = some (.tup [.int 1, .int 1]) := by
      have e : pq (cf r60 60) = (1, 1) := by rw [cf_tab, if_pos (by decide)]; decide +kernel
      have z : H4 ra2 = some (.tup [.int (pq (cf r60 60)).1, .int (pq (cf r60 60)).2]) := hra2
      rw [e] at z
      exact z
    have t23 : Same H1 H4 := st0.trans (s3.trans s4)
    clear hrr fr rat hPm made nmd et0
    refine ⟨_, rfl, rr, _, _, .ref ra1, rfl, rfl, SqT.of rae, at_of (j := 1) rfl (by rw [List.getElem?_map, ga1]; rfl), (by show 2 ≤ sizeLine; decide), fun u1 nu1 => ?_⟩
    have eu1 : upd H4 u1 (HO.tup [V.int 1, V.int 60]) u1 = some (HO.tup [V.int 1, V.int 60]) := upd_same
    have su1 : Same H4 (upd H4 u1 (HO.tup [V.int 1, V.int 60])) := same_upd nu1
    try dsimp only [tNil] at nu1 ⊢
    generalize upd H4 u1 (HO.tup [V.int 1, V.int 60]) = H5 at eu1 su1 ⊢
    clear nu1
    have neT : ∀ {G : Hp} {x y : Addr} {i j : Int} {R : V → Hp → Prop}, G x = some (.tup [.int i, .int j]) → G y = some (.tup [.int i, .int j]) → R (.bl false) G → rNeT K (.ref x) (.ref y) G R := fun {G x y i j R} h1 h2 r => by
      have pl : (PyData.tuple [.int i, .int j]).plain = true := by simp [PyData.plain, PyData.plainAll]
      refine ⟨.tuple [.int i, .int j], .tuple [.int i, .int j], .tup (SqT.of h1) (.cons (.int _) (.cons (.int _) .nil)), .tup (SqT.of h2) (.cons (.int _) (.cons (.int _) .nil)), pl, pl, (by simp [PyData.depth, PyData.depthAll]), ?_⟩
      rw [SeqAt.eqv_refl_plain _ pl]
      exact r
    refine neT (su1 _ _ hra1) eu1 ?_
    refine ⟨_, rfl, ?_⟩
    refine iteF ?_
    refine ⟨_, rfl, rr, _, _, .ref ra2, rfl, rfl, SqT.of (su1 _ _ rae), at_of (j := 60) rfl (by rw [List.getElem?_map, ga2]; rfl), (by show 2 ≤ sizeLine; decide), fun u2 nu2 => ?_⟩
    have eu2 : upd H5 u2 (HO.tup [V.int 1, V.int 1]) u2 = some (HO.tup [V.int 1, V.int 1]) := upd_same
    have su2 : Same H5 (upd H5 u2 (HO.tup [V.int 1, V.int 1])) := same_upd nu2
    try dsimp only [tNil] at nu2 ⊢
    generalize upd H5 u2 (HO.tup [V.int 1, V.int 1]) = H6 at eu2 su2 ⊢
    clear nu2
    refine neT (su2 _ _ (su1 _ _ hra2)) eu2 ?_
    refine ⟨_, rfl, ?_⟩
    refine iteF ?_
    have t16 : Same H1 H6 := t23.trans (su1.trans su2)
    have P6 := hP.same t16
    have T6 := T1.ext t16
    clear su1 su2 eu1 eu2 rae
    refine ⟨3, rfl, by decide, by decide, for_range (lo := 0) (n := 3) (fun i σ H => ∃ v3 v4 v5 v6 v7 v8 v9 v10 v11 v12 v13 v14 v15 : Option V, σ = [some (.ref sc), some (.ref p), some (.ref rr), v3, v4, v5, v6, v7, v8, v9, v10, v11, v12, v13, v14, v15] ∧ Pen H p lc (5000 * i) ∧ Tabs (Ts Pt) H)
      ⟨none, none, none, none, none, none, none, none, none, none, none, none, none, rfl, P6.more (by decide), T6⟩ ?_ ?_⟩
    · rintro i σ H ih ⟨v3, v4, v5, v6, v7, v8, v9, v10, v11, v12, v13, v14, v15, rfl, hP0, T0⟩
      refine ⟨_, rfl, _, rfl, (by show 2 ≤ sizeLine; decide), fun l1 nl1 => ?_⟩
      have el1 : upd H l1 (HO.lst [V.int 2, V.int 50]) l1 = some (HO.lst [V.int 2, V.int 50]) := upd_same
      have sl1 : Same H (upd H l1 (HO.lst [V.int 2, V.int 50])) := same_upd nl1
      try dsimp only [tNil] at nl1 ⊢
      generalize upd H l1 (HO.lst [V.int 2, V.int 50]) = I1 at el1 sl1 ⊢
      clear nl1
      have PI1 := hP0.same sl1
      refine ⟨p, lc, l1, _, _, rfl, PI1, by omega, el1, nd PI1 el1 (fun _ z => by cases z), (by show 0 < 2; decide), (by show 2 < 1000000; decide), fun x I2 hx PI2 kI2 => ?_⟩
      obtain ⟨m, rfl, m0, m50⟩ : ∃ m : Int, x = .int m ∧ 1 ≤ m ∧ m ≤ 50 := by
        simp only [List.mem_cons, List.not_mem_nil, or_false] at hx
        rcases hx with h | h
        · exact ⟨2, h, by decide, by decide⟩
        · exact ⟨50, h, by decide, by decide⟩
      clear hx
      refine ⟨p, lc, _, m, rfl, m0, m50, PI2, by omega, fun ti r1 r2 lo hi I3 PI3 kI3 eti tip h1 h2 lt bq1 bq2 => ?_⟩
      have T3 := tabs_kp PI2 kI3 (tabs_kp PI1 kI2 (T0.ext sl1))
      refine ⟨ti, _, rfl, SqT.of eti, rfl, _, _, rfl, _, _, rfl, rfl, ?_⟩
      -- the polynomial
      refine ⟨_, rfl, _, rfl, (by show 2 ≤ sizeLine; decide), fun l2 nl2 => ?_⟩
      have el2 : upd I3 l2 (HO.lst [V.int 3, V.int 8]) l2 = some (HO.lst [V.int 3, V.int 8]) := upd_same
      have sl2 : Same I3 (upd I3 l2 (HO.lst [V.int 3, V.int 8])) := same_upd nl2
      try dsimp only [tNil] at nl2 ⊢
      generalize upd I3 l2 (HO.lst [V.int 3, V.int 8]) = I4 at el2 sl2 ⊢
      clear nl2
      have PI4 := PI3.same sl2
      refine ⟨p, lc, l2, _, _, rfl, PI4, by omega, el2, nd PI4 el2 (fun _ z => by cases z), (by show 0 < 2; decide), (by show 2 < 1000000; decide), fun x I5 hx PI5 kI5 => ?_⟩
      obtain ⟨g, rfl, g0, g12⟩ : ∃ g : Int, x = .int g ∧ 0 ≤ g ∧ g ≤ 12 := by
        simp only [List.mem_cons, List.not_mem_nil, or_false] at hx
        rcases hx with h | h
        · exact ⟨3, h, by decide, by decide⟩
        · exact ⟨8, h, by decide, by decide⟩
      clear hx
      refine ⟨_, rfl, _, _, rfl, rfl, (by unfold CPow; decide +kernel), (by show 2 ≤ sizeLine; decide), fun l3 nl3 => ?_⟩
      have el3 : upd I5 l3 (HO.lst [V.int 3, V.int (10 ^ (9 : Int).toNat)]) l3 = some (HO.lst [V.int 3, V.int (10 ^ (9 : Int).toNat)]) := upd_same
      have sl3 : Same I5 (upd I5 l3 (HO.lst [V.int 3, V.int (10 ^ (9 : Int).toNat)])) := same_upd nl3
      try dsimp only [tNil] at nl3 ⊢
      generalize upd I5 l3 (HO.lst [V.int 3, V.int (10 ^ (9 : Int).toNat)]) = I6 at el3 sl3 ⊢
      clear nl3
      have PI6 := PI5.same sl3
      refine ⟨p, lc, l3, _, _, rfl, PI6, by omega, el3, nd PI6 el3 (fun _ z => by cases z), (by show 0 < 2; decide), (by show 2 < 1000000; decide), fun x I7 hx PI7 kI7 => ?_⟩
      obtain ⟨m, rfl, m0, m9⟩ : ∃ m : Int, x = .int m ∧ 1 ≤ m ∧ m ≤ 1000000000 := by
        simp only [List.mem_cons, List.not_mem_nil, or_false] at hx
        rcases hx with h | h
        · exact ⟨3, h, by decide, by decide⟩
        · exact ⟨_, h, by decide +kernel, by decide +kernel⟩
      clear hx
      refine ⟨p, lc, _, g, m, rfl, PI7, by omega, g0, g12, m0, m9, fun ol qs I8 PI8 kI8 hol lq sq smd => ?_⟩
      have k38 : Kp p I3 I8 := ((((Kp.of sl2).trans kI5).trans (Kp.of sl3)).trans kI7).trans kI8
      have T8 := tabs_kp PI3 k38 T3
      have h18 : TR I8 r1 lo := h1.kp PI3 k38
      have h28 : TR I8 r2 hi := h2.kp PI3 k38
      have sg0 : SigB 3 qs := by
        obtain ⟨L, L0, Lb, fL⟩ := fr_all (A := 2 ^ 37) (B := 2 ^ 7) qs (fun q hq => by
          obtain ⟨j, rfl⟩ := mem_cf hq
          obtain ⟨z1, z2⟩ := smd j
          exact ⟨by show _ ≤ 137438953472; omega, by show _ ≤ 128; omega⟩)
        have Lb91 : L ≤ 2 ^ 91 := Nat.le_trans Lb (by rw [← Nat.pow_mul]; exact Nat.pow_le_pow_right (by decide) (by omega))
        refine ⟨L, 2 ^ 37 * L, L0, Nat.mul_pos (by decide) L0, Nat.le_trans Lb91 (Nat.pow_le_pow_right (by decide) (by decide)), ?_, fL⟩
        refine Nat.le_trans (Nat.mul_le_mul_left _ Lb91) ?_
        rw [← Nat.pow_add]
        exact Nat.pow_le_pow_right (by decide) (by decide)
      clear smd sl2 sl3 el2 el3 sl1 el1
      refine ⟨fun σ H' => ∃ (ol : Addr) (qs : List Rat), σ = [some (.ref sc), some (.ref p), some (.ref rr), some (.int (0 + (i : Int))), some (.ref r1), some (.ref r2), some (.ref ol), v7, v8, v9, v10, v11, v12, v13, v14, v15] ∧ Pen H' p lc (5000 * i + 1000) ∧ Kp p I8 H' ∧ RL H' ol qs ∧ qs.length ≤ 13 ∧ stripQ qs = qs ∧ SigB 3 qs, ?_, ?_⟩
      · refine ⟨_, rfl, p, lc, _, 6, rfl, PI8, by omega, by decide, by decide, fun z J1 z0 z6 PJ1 kJ1 => ?_⟩
        refine ⟨rfl, _, rfl, ?_⟩
        by_cases z1 : z = 0
        · subst z1
          rw [decide_eq_true rfl]
          refine iteT ?_
          refine ⟨_, rfl, (by show 0 ≤ sizeLine; decide), fun o1 no1 => ?_⟩
          have eo1 : upd J1 o1 (HO.lst []) o1 = some (HO.lst []) := upd_same
          have so1 : Same J1 (upd J1 o1 (HO.lst [])) := same_upd no1
          try dsimp only [tNil] at no1 ⊢
          generalize upd J1 o1 (HO.lst []) = J2 at eo1 so1 ⊢
          clear no1
          refine ⟨(by show 2 ≤ sizeLine; decide), fun o2 no2 => ?_⟩
          have eo2 : upd J2 o2 (HO.tup [V.int 7, V.int 3]) o2 = some (HO.tup [V.int 7, V.int 3]) := upd_same
          have so2 : Same J2 (upd J2 o2 (HO.tup [V.int 7, V.int 3])) := same_upd no2
          try dsimp only [tNil] at no2 ⊢
          generalize upd J2 o2 (HO.tup [V.int 7, V.int 3]) = J3 at eo2 so2 ⊢
          clear no2
          refine ⟨(by show 1 ≤ sizeLine; decide), fun o3 no3 => ?_⟩
          have eo3 : upd J3 o3 (HO.lst [V.ref o2]) o3 = some (HO.lst [V.ref o2]) := upd_same
          have so3 : Same J3 (upd J3 o3 (HO.lst [V.ref o2])) := same_upd no3
          try dsimp only [tNil] at no3 ⊢
          generalize upd J3 o3 (HO.lst [V.ref o2]) = J4 at eo3 so3 ⊢
          clear no3
          have j14 := so1.trans (so2.trans so3)
          have PJ4 := PJ1.same j14
          have kJ4 : Kp p I8 J4 := kJ1.trans (Kp.of j14)
          refine ⟨_, rfl, _, rfl, _, rfl, p, lc, r1, r2, _, lo, hi, rfl, PJ4, by omega, h18.kp PI8 kJ4, h28.kp PI8 kJ4, bq1, bq2, fun sl qs2 J5 PJ5 kJ5 hsl lq2 sq2 sg2 => ?_⟩
          refine ⟨(by show 3 ≤ sizeLine; decide), fun o4 no4 => ?_⟩
          have eo4 : upd J5 o4 (HO.lst [V.ref o1, V.ref o3, V.ref sl]) o4 = some (HO.lst [V.ref o1, V.ref o3, V.ref sl]) := upd_same
          have so4 : Same J5 (upd J5 o4 (HO.lst [V.ref o1, V.ref o3, V.ref sl])) := same_upd no4
          try dsimp only [tNil] at no4 ⊢
          generalize upd J5 o4 (HO.lst [V.ref o1, V.ref o3, V.ref sl]) = J6 at eo4 so4 ⊢
          clear no4
          have PJ6 := PJ5.same so4
          refine ⟨p, lc, o4, _, _, rfl, PJ6, by omega, eo4, nd PJ6 eo4 (fun _ z => by cases z), (by show 0 < 3; decide), (by show 3 < 1000000; decide), fun x J7 hx PJ7 kJ7 => ?_⟩
          have k47 : Kp p J4 J7 := (kJ5.trans (Kp.of so4)).trans kJ7
          simp only [List.mem_cons, List.not_mem_nil, or_false] at hx
          rcases hx with h | h | h
          · rw [h]
            exact ⟨o1, [], rfl, PJ7.more (by omega), kJ4.trans k47, ⟨[], k47 _ _ (nd PJ4 (so3 _ _ (so2 _ _ eo1)) (fun _ z => by cases z)) (so3 _ _ (so2 _ _ eo1)), .nil⟩, by decide, rfl, ⟨1, 1, by decide, by decide, Nat.pow_pos (by decide), Nat.pow_pos (by decide), fun i => by rw [cf_nil]; exact Fr.zero _ _⟩⟩
          · rw [h]
            have h73 : RL J4 o3 [(⟨7, 3, by decide, by decide⟩ : Rat)] := ⟨[o2], eo3, .cons (so3 _ _ eo2) .nil⟩
            exact ⟨o3, [(⟨7, 3, by decide, by decide⟩ : Rat)], rfl, PJ7.more (by omega), kJ4.trans k47, h73.kp PJ4 k47, by show 1 ≤ 13; decide, by decide +kernel, ⟨3, 7, by decide, by decide, Nat.le_trans (show 3 ≤ 2 ^ 2 by decide) (Nat.pow_le_pow_right (by decide) (by decide)), Nat.le_trans (show 7 ≤ 2 ^ 3 by decide) (Nat.pow_le_pow_right (by decide) (by decide)), fun i => by
              match i with
              | 0 => exact ⟨7, by decide +kernel, by decide⟩
              | i + 1 => rw [cf_ge (by show 1 ≤ _; omega)]; exact Fr.zero _ _⟩⟩
          · rw [h]
            exact ⟨sl, qs2, rfl, PJ7.more (by omega), kJ4.trans k47, hsl.kp PJ5 ((Kp.of so4).trans kJ7), lq2, sq2, sg2⟩
        · rw [decide_eq_false (by intro z; exact z1 (by injection z))]
          refine iteF ?_
          exact ⟨ol, qs, rfl, PJ1.more (by omega), kJ1, hol.kp PI8 kJ1, lq, sq, sg0⟩
      clear hol lq sq sg0 ol qs
      rintro σ J0 ⟨ol, qs, rfl, PJ0, kJ0, hol, lq, sq, sg⟩
      have h1 : TR J0 r1 lo := h18.kp PI8 kJ0
      have h2 : TR J0 r2 hi := h28.kp PI8 kJ0
      have T0 := tabs_kp PI8 kJ0 T8
      clear h18 h28 T8 kJ0 PI8 k38 kI8 PI7 kI7 PI6 kI5 PI5 PI4 T3 PI3 kI3 PI2 kI2 PI1
      obtain ⟨oas, oe, ot⟩ := id hol
      have lm0 : (oas.map V.ref).length = qs.length := by rw [List.length_map, ot.lenQ]
      -- the degrees
      refine ⟨_, rfl, ol, _, rfl, .inl (SqL.of oe), _, _, rfl, rfl, (by show 2 ≤ sizeLine; decide), fun lm nlm => ?_⟩
      rw [lm0]
      have elm : upd J0 lm (HO.lst [V.int 0, V.int (((qs.length : Nat) : Int) - 1)]) lm = some (HO.lst [V.int 0, V.int (((qs.length : Nat) : Int) - 1)]) := upd_same
      have slm : Same J0 (upd J0 lm (HO.lst [V.int 0, V.int (((qs.length : Nat) : Int) - 1)])) := same_upd nlm
      try dsimp only [tNil] at nlm ⊢
      generalize upd J0 lm (HO.lst [V.int 0, V.int (((qs.length : Nat) : Int) - 1)]) = J1 at elm slm ⊢
      clear nlm
      refine ⟨lm, [0, ((qs.length : Nat) : Int) - 1], rfl, SqL.of elm, (by show 0 < 2; decide), fun m hm1 hm2 => ?_⟩
      obtain rfl : m = ((qs.length - 1 : Nat) : Int) := by
        have h1 := hm2 0 (by simp)
        have h2 := hm2 (((qs.length : Nat) : Int) - 1) (by simp)
        simp only [List.mem_cons, List.not_mem_nil, or_false] at hm1
        omega
      have PJ1 := PJ0.same slm
      refine ⟨_, rfl, _, rfl, p, lc, _, 4, rfl, PJ1, by omega, by decide, by decide, fun z K1 z0 z4 PK1 kK1 => ?_⟩
      obtain ⟨zn, rfl⟩ : ∃ zn : Nat, z = (zn : Int) := ⟨z.toNat, by omega⟩
      refine ⟨_, _, rfl, rfl, ?_⟩
      have kJK1 : Kp p J0 K1 := (Kp.of slm).trans kK1
      obtain ⟨M, N, M0, N0, Mb, Nb, frq⟩ := id sg
      have rok : ∀ j, RatOk (pq (cf qs j)) := fun j => by
        obtain ⟨y1, y2⟩ := (frq j).size M0
        refine ⟨pq_low _, Nat.lt_of_le_of_lt (Nat.le_trans y1 Nb) (Nat.pow_lt_pow_right (by decide) (by decide)), ?_⟩
        show (((cf qs j).den : Int)).natAbs < _
        rw [Int.natAbs_natCast]
        exact Nat.lt_of_le_of_lt (Nat.le_trans y2 Mb) (Nat.pow_lt_pow_right (by decide) (by decide))
      refine ⟨_, rfl, _, rfl, p, lc, ol, _, qs, rfl, PK1, by omega, hol.kp PJ0 kJK1, lq, sq, rok, fun md K2 PK2 kK2 hmd => ?_⟩
      refine ⟨(by show 2 ≤ sizeLine; decide), fun tn ntn => ?_⟩
      have etn : upd K2 tn (HO.tup [V.int (((qs.length - 1 : Nat) : Int) + (zn : Int)), V.ref md]) tn = some (HO.tup [V.int (((qs.length - 1 : Nat) : Int) + (zn : Int)), V.ref md]) := upd_same
      have stn : Same K2 (upd K2 tn (HO.tup [V.int (((qs.length - 1 : Nat) : Int) + (zn : Int)), V.ref md])) := same_upd ntn
      try dsimp only [tNil] at ntn ⊢
      generalize upd K2 tn (HO.tup [V.int (((qs.length - 1 : Nat) : Int) + (zn : Int)), V.ref md]) = K3 at etn stn ⊢
      clear ntn
      refine ⟨tn, _, rfl, SqT.of etn, rfl, _, _, rfl, _, _, rfl, rfl, ?_⟩
      have PK3 := PK2.same stn
      have kJ3 : Kp p J0 K3 := (kJK1.trans kK2).trans (Kp.of stn)
      have hmd3 := PolyAt.same hmd stn
      have h13 : TR K3 r1 lo := h1.kp PJ0 kJ3
      have h23 : TR K3 r2 hi := h2.kp PJ0 kJ3
      have ol3 := hol.kp PJ0 kJ3
      have T3 := tabs_kp PJ0 kJ3 T0
      clear etn stn elm slm hm1 hm2
      refine par_two ?_
      have s80 : ∀ {x : Rat}, BqQ x → S80 x.num ∧ S80 (x.den : Int) := fun h => ⟨Nat.lt_of_le_of_lt h.1 (Nat.pow_lt_pow_right (by decide) (by decide)), by unfold S80; rw [Int.natAbs_natCast]; exact Nat.lt_of_le_of_lt h.2 (Nat.pow_lt_pow_right (by decide) (by decide))⟩
      have dpos : ∀ x : Rat, (0 : Int) < (x.den : Int) := fun x => by have := x.den_pos; omega
      refine ⟨_, rfl, _, rfl, p, lc, r1, _, lo.num, (lo.den : Int), rfl, PK3, by omega, h13, dpos lo, (s80 bq1).1, (s80 bq1).2, fun va da ka K4 PK4 kK4 hda pda ka0 ka3 gda => ?_⟩
      refine ⟨_, rfl, _, rfl, p, lc, r2, _, hi.num, (hi.den : Int), rfl, PK4, by omega, h23.kp PK3 kK4, dpos hi, (s80 bq2).1, (s80 bq2).2, fun vb db kb K5 PK5 kK5 hdb pdb kb0 kb3 gdb => ?_⟩
      have wda : Dt K (wo p K5) va da := (hda.keep PK3.there).mono kK5.wo
      have wdb : Dt K (wo p K5) vb db := hdb.keep PK4.there
      have k35 := kK4.trans kK5
      have hmd5 : PolyQ K CP K5 md qs := hmd3.kp PK3 k35
      have h15 : TR K5 r1 lo := h13.kp PK3 k35
      have h25 : TR K5 r2 hi := h23.kp PK3 k35
      have ol5 := ol3.kp PK3 k35
      have T5 := tabs_kp PK3 k35 T3
      have PK5' := PK5.more (show _ ≤ 5000 * (i : Int) + 2000 by omega)
      have ivp : IvP da db lo hi := by
        have b20 : ∀ {x k : Int} {m : Nat}, x.natAbs ≤ m → 0 < k → k ≤ 3 → m ≤ 2 ^ 15 → Sm20 (x * k) := fun {x k m} h1 h2 h3 h4 => by
          unfold Sm20
          rw [Int.natAbs_mul]
          refine Nat.le_trans (Nat.mul_le_mul (Nat.le_trans h1 h4) (show k.natAbs ≤ 4 by omega)) (by decide)
        have c1 : lo.num * (hi.den : Int) < hi.num * (lo.den : Int) := (lt_cross (by rw [Rat.intCast_natCast]; exact num_den lo) (by rw [Rat.intCast_natCast]; exact num_den hi) (dpos lo) (dpos hi)).mpr lt
        have nd1 : lo * ((lo.den : Int) : Rat) = ((lo.num : Int) : Rat) := by rw [Rat.intCast_natCast]; exact num_den lo
        have nd2 : hi * ((hi.den : Int) : Rat) = ((hi.num : Int) : Rat) := by rw [Rat.intCast_natCast]; exact num_den hi
        refine ⟨_, _, _, _, pda, pdb, Int.mul_pos (dpos lo) ka0, Int.mul_pos (dpos hi) kb0, b20 (m := 2 ^ 15) bq1.1 ka0 ka3 (Nat.le_refl _), b20 (m := 2 ^ 9) (by rw [Int.natAbs_natCast]; exact bq1.2) ka0 ka3 (by decide), b20 (m := 2 ^ 15) bq2.1 kb0 kb3 (Nat.le_refl _), b20 (m := 2 ^ 9) (by rw [Int.natAbs_natCast]; exact bq2.2) kb0 kb3 (by decide), ?_, ?_, ?_⟩
        · rw [Rat.intCast_mul, Rat.intCast_mul, ← nd1, Rat.mul_assoc]
        · rw [Rat.intCast_mul, Rat.intCast_mul, ← nd2, Rat.mul_assoc]
        · have z := Int.mul_lt_mul_of_pos_right c1 (Int.mul_pos ka0 kb0)
          have e1 : lo.num * ka * ((hi.den : Int) * kb) = lo.num * (hi.den : Int) * (ka * kb) := by simp only [Int.mul_assoc, Int.mul_comm, Int.mul_left_comm]
          have e2 : hi.num * kb * ((lo.den : Int) * ka) = hi.num * (lo.den : Int) * (ka * kb) := by simp only [Int.mul_assoc, Int.mul_comm, Int.mul_left_comm]
          rw [e1, e2]
          exact z
      have gD : ∀ {G : Hp}, Kp p K5 G → Dt K G va da ∧ Dt K G vb db := fun k => ⟨(wda.mono k.wo).mono wo_sub, (wdb.mono k.wo).mono wo_sub⟩
      clear hda hdb kK4 kK5 k35 PK4 PK3 h13 h23 ol3 hmd3 T3 kJ3 kJK1 hmd PK2 PK1 PJ1 PJ0 h1 h2 hol T0 oe ot kK1 kK2 PK5
      -- the corners
      generalize hnn : qs.length - 1 + zn = n
      have en : ((qs.length - 1 : Nat) : Int) + (zn : Int) = (n : Int) := by omega
      rw [en]
      have n15 : n ≤ 15 := by omega
      have dgn : dgD (qs.length - 1) (.int (n : Int)) = some n := by
        show (if ((qs.length - 1 : Nat) : Int) ≤ (n : Int) ∧ (n : Int) ≤ 60 then some ((n : Int)).toNat else none) = some n
        rw [if_pos ⟨by omega, by omega⟩]
        rfl
      obtain ⟨row, lrow, hev⟩ := row_of (A := qs) (n := n) (by omega) lo hi
      have w0 : hi - lo ≠ 0 := by grind
      refine ⟨_, rfl, _, rfl, _, rfl, _, rfl, _, rfl, ?_⟩
      refine tnil_i ?_
      refine corners_q (n := n) (row := row) (lo := lo) (hi := hi) hmd5 (gD Kp.refl).1 (gD Kp.refl).2 (.int _) ivp lq sg dgn (.inl n15) lrow hev fun t1 L1 Nr1 G1 s1 ht1 L10 LN1 fr1 => ?_
      refine ⟨_, rfl, _, rfl, _, rfl, ?_⟩
      refine tnil_i ?_
      refine ⟨_, rfl, ?_⟩
      refine tnil_i ?_
      refine ⟨rfl, rfl, ?_⟩
      refine corners_q (n := n) (row := row) (lo := lo) (hi := hi) (PolyAt.same hmd5 s1) (gD (Kp.of s1)).1 (gD (Kp.of s1)).2 (.int _) ivp lq sg dgn (.inl n15) lrow hev fun t2 L2 Nr2 G2 s2 ht2 L20 LN2 fr2 => ?_
      refine ⟨(by show 2 ≤ sizeLine; decide), fun l4 nl4 => ?_⟩
      have el4 : upd G2 l4 (HO.lst [V.ref t1, V.ref t2]) l4 = some (HO.lst [V.ref t1, V.ref t2]) := upd_same
      have sl4 : Same G2 (upd G2 l4 (HO.lst [V.ref t1, V.ref t2])) := same_upd nl4
      try dsimp only [tNil] at nl4 ⊢
      generalize upd G2 l4 (HO.lst [V.ref t1, V.ref t2]) = G3 at el4 sl4 ⊢
      clear nl4
      have s53 := s1.trans (s2.trans sl4)
      have PG3 := PK5'.same s53
      refine ⟨p, lc, l4, _, _, rfl, PG3, by omega, el4, nd PG3 el4 (fun _ z => by cases z), (by show 0 < 2; decide), (by show 2 < 1000000; decide), fun x G4 hx PG4 kG4 => ?_⟩
      have k54 : Kp p K5 G4 := (Kp.of s53).trans kG4
      obtain ⟨tr, L, Nr, rfl, htr, L0, Lb, Nrb, fr⟩ : ∃ (tr : Addr) (L Nr : Nat), x = .ref tr ∧ RT G4 tr row ∧ 0 < L ∧ L ≤ 2 ^ 1010 ∧ Nr ≤ 2 ^ 2725 ∧ ∀ i, Fr L Nr (cf row i) := by
        simp only [List.mem_cons, List.not_mem_nil, or_false] at hx
        rcases hx with h | h
        · exact ⟨t1, L1, Nr1, h, ((ht1.same s2).same sl4).kp PG3 kG4, L10, (LN1 n15).1, (LN1 n15).2, fr1⟩
        · exact ⟨t2, L2, Nr2, h, (ht2.same sl4).kp PG3 kG4, L20, (LN2 n15).1, (LN2 n15).2, fr2⟩
      clear hx ht1 ht2 LN1 LN2 fr1 fr2 L10 L20 el4 sl4 s1 s2
      have hmd4 : PolyQ K CP G4 md qs := hmd5.kp PK5' k54
      have h14 : TR G4 r1 lo := h15.kp PK5' k54
      have h24 : TR G4 r2 hi := h25.kp PK5' k54
      have ol4 := ol5.kp PK5' k54
      have T4 := tabs_kp PK5' k54 T5
      obtain ⟨ras, rae, rat⟩ := id htr
      have lras := rat.lenQ
      have frS : ∀ k, (cf row k).num.natAbs < 2 ^ big ∧ (cf row k).den < 2 ^ big := fun k => by
        obtain ⟨z1, z2⟩ := (fr k).size L0
        exact ⟨Nat.lt_of_le_of_lt (Nat.le_trans z1 Nrb) (Nat.pow_lt_pow_right (by decide) (by decide)), Nat.lt_of_le_of_lt (Nat.le_trans z2 Lb) (Nat.pow_lt_pow_right (by decide) (by decide))⟩
      refine ⟨_, rfl, .ref tr, .ty "tuple", _, .type "tuple", _, rfl, .ty _, htr.dt.ty, kit_tup, _, rfl, ?_⟩
      refine iteF ?_
      refine ⟨_, rfl, tr, _, rfl, .inr (SqT.of rae), _, rfl, _, _, rfl, rfl, rfl, _, rfl, ?_⟩
      rw [ne_same (by rw [List.length_map, lras, lrow, Int.natCast_add]; rfl)]
      refine iteF ?_
      -- all of them ratios
      refine ⟨_, rfl, tr, rfl, lc_seq (xs := ras.map V.ref) (.inr (SqT.of rae)) (fun E1 k H' => Same G4 H' ∧ H' E1 = some (.lst [])) ?_ ?_ ?_ ?_⟩
      · intro E1 hE
        exact ⟨same_upd hE, upd_same⟩
      · intro E1 k H' hE ⟨s2, _⟩
        exact ⟨same_sqL s2, same_sqT s2⟩
      · intro E1 k x H' hE hk ⟨s2, eE⟩
        rw [List.getElem?_map] at hk
        cases hr0 : ras[k]? with
        | none => rw [hr0] at hk; cases hk
        | some r =>
          rw [hr0] at hk
          cases hk
          obtain ⟨qq, hq, er⟩ := rat.atQ hr0
          have fq := frS k
          rw [cf_get hq] at fq
          refine ⟨rfl, ?_⟩
          refine ⟨_, rfl, r, qq, rfl, er.same s2, fq.1, fq.2, fun H2 s3 => ?_⟩
          refine ⟨true, rfl, ?_⟩
          refine iteF ?_
          exact ⟨s2.trans s3, s3 _ _ eE⟩
      intro E1 M1 nE ⟨m1, eE⟩
      clear nE
      refine ⟨(by show 0 ≤ sizeLine; decide), fun le nle => ?_⟩
      have ele : upd M1 le (HO.lst []) le = some (HO.lst []) := upd_same
      have s21 : Same M1 (upd M1 le (HO.lst [])) := same_upd nle
      generalize upd M1 le (HO.lst []) = M2 at ele s21 ⊢
      refine ⟨.list [], .list [], .lst (SqL.of (s21 _ _ eE)) .nil, .lst (SqL.of ele) .nil, by rfl, by rfl, by decide, ?_⟩
      rw [eqv_nilL, decide_eq_true rfl]
      refine ⟨_, rfl, ?_⟩
      refine iteF ?_
      clear nle ele eE
      -- read back
      have m2 := m1.trans s21
      refine ⟨_, rfl, tr, _, rfl, .inr (SqT.of (m2 _ _ rae)), fun ll nll => ?_⟩
      have ell : upd M2 ll (HO.lst (ras.map V.ref)) ll = some (HO.lst (ras.map V.ref)) := upd_same
      have s22 : Same M2 (upd M2 ll (HO.lst (ras.map V.ref))) := same_upd nll
      generalize upd M2 ll (HO.lst (ras.map V.ref)) = M3 at ell s22 ⊢
      have m3 := m2.trans s22
      refine ⟨_, rfl, _, rfl, ?_⟩
      have p100 : ∀ {x k m : Nat}, x ≤ 2 ^ k → k ≤ m → x ≤ 2 ^ m := fun h hk => Nat.le_trans h (Nat.pow_le_pow_right (by decide) hk)
      refine ⟨ll, r1, r2, row, lo, hi, 15, L, 2 ^ 2725, rfl, ⟨ras, ell, rat.same m3⟩, h14.same m3, h24.same m3, by omega, by omega, fun i => (fr i).le Nrb, L0, Nat.pow_pos (by decide), Lb, Nat.le_refl _, lt, bq1.1, p100 bq1.2 (by decide), bq2.1, p100 bq2.2 (by decide), by decide, fun wl W2 M' N' M4 s23 hwl sW2 lW2 _ _ _ _ evW2 => ?_⟩
      have same2 : W2 = qs := strip_same sW2 sq fun x => by
        rw [evW2, lrow, Nat.add_sub_cancel]
        have e1 := hev ((x - lo) / (hi - lo))
        have e2 : lo + (x - lo) / (hi - lo) * (hi - lo) = x := by grind
        have e3 : 1 - (x - lo) / (hi - lo) = (hi - x) / (hi - lo) := by grind
        rw [e2, e3] at e1
        exact e1.symm
      rw [same2] at hwl
      have m4 := m3.trans s23
      refine ⟨_, rfl, _, _, hwl.dt, (ol4.same m4).dt, (plain_row _).2, (plain_row _).2, (depth_row _).2, ?_⟩
      rw [eqv_rowL, decide_eq_true rfl]
      refine ⟨_, rfl, ?_⟩
      refine iteF ?_
      clear nll ell s22 s21 m1 m2 m3 s23 hwl evW2 lW2 sW2
      -- the degree left out
      have gM : ∀ {G : Hp}, Same M4 G → PolyQ K CP G md qs ∧ Dt K G va da ∧ Dt K G vb db := fun s => ⟨PolyAt.same (PolyAt.same hmd4 m4) s, gD ((k54.trans (Kp.of m4)).trans (Kp.of s))⟩
      obtain ⟨rowL, lrowL, hevL⟩ := row_of (A := qs) (n := qs.length - 1) (by omega) lo hi
      have nL : qs.length - 1 ≤ 15 := by omega
      have dgL : dgD (qs.length - 1) (.int ((qs.length - 1 : Nat) : Int)) = some (qs.length - 1) := by
        show (if ((qs.length - 1 : Nat) : Int) ≤ ((qs.length - 1 : Nat) : Int) ∧ ((qs.length - 1 : Nat) : Int) ≤ 60 then some (((qs.length - 1 : Nat) : Int)).toNat else none) = _
        rw [if_pos ⟨by omega, by omega⟩]
        rfl
      have neR : ∀ {G : Hp} {x y : Addr} {R : V → Hp → Prop}, RT G x rowL → RT G y rowL → R (.bl false) G → rNeT K (.ref x) (.ref y) G R := fun {G x y R} h1 h2 r => by
        have pl := (plain_row (rowL.map pq)).1
        refine ⟨_, _, h1.dt, h2.dt, pl, pl, (depth_row _).1, ?_⟩
        rw [SeqAt.eqv_refl_plain _ pl]
        exact r
      refine ⟨_, rfl, _, rfl, _, rfl, ?_⟩
      refine tnil_i ?_
      refine corners_q (n := qs.length - 1) (row := rowL) (lo := lo) (hi := hi) (gM (Same.refl _)).1 (gM (Same.refl _)).2.1 (gM (Same.refl _)).2.2 .non ivp lq sg rfl (.inl nL) lrowL hevL fun x1 _ _ N1 q1 hx1 _ _ _ => ?_
      refine ⟨_, rfl, _, rfl, _, rfl, _, rfl, ?_⟩
      refine tnil_i ?_
      refine corners_q (n := qs.length - 1) (row := rowL) (lo := lo) (hi := hi) (gM q1).1 (gM q1).2.1 (gM q1).2.2 (.int _) ivp lq sg dgL (.inl nL) lrowL hevL fun x2 _ _ N2 q2 hx2 _ _ _ => ?_
      refine neR (hx1.same q2) hx2 ?_
      refine ⟨_, rfl, ?_⟩
      refine iteF ?_
      have q12 := q1.trans q2
      refine ⟨_, rfl, _, rfl, _, rfl, ?_⟩
      refine tc1_i ?_
      refine corners_q (n := qs.length - 1) (row := rowL) (lo := lo) (hi := hi) (gM q12).1 (gM q12).2.1 (gM q12).2.2 .non ivp lq sg rfl (.inl nL) lrowL hevL fun x3 _ _ N3 q3 hx3 _ _ _ => ?_
      refine ⟨_, rfl, _, rfl, _, rfl, ?_⟩
      refine tnil_i ?_
      have q13 := q12.trans q3
      refine corners_q (n := qs.length - 1) (row := rowL) (lo := lo) (hi := hi) (gM q13).1 (gM q13).2.1 (gM q13).2.2 .non ivp lq sg rfl (.inl nL) lrowL hevL fun x4 _ _ N4 q4 hx4 _ _ _ => ?_
      refine neR (hx3.same q4) hx4 ?_
      refine ⟨_, rfl, ?_⟩
      refine iteF ?_
      have m44 : Same G4 N4 := m4.trans (q13.trans q4)
      have PN4 := (PG4.same m44).more (show _ ≤ 5000 * (i : Int) + 2100 by omega)
      have TN4 := T4.ext m44
      have hmdN := PolyAt.same hmd4 m44
      have h1N := h14.same m44
      have h2N := h24.same m44
      clear hx1 hx2 hx3 hx4 q1 q2 q3 q4 q12 q13 gM neR m4 h14 h24 ol4 T4 hmd4 hevL lrowL
      -- what is refused
      refine ⟨_, rfl, p, lc, _, rfl, PN4, by omega, fun br v u d e O1 PO1 kO1 ebr hv hu nI szI smI => ?_⟩
      refine ⟨_, rfl, _, rfl, _, _, rfl, rfl, _, rfl, (by show 2 ≤ sizeLine; decide), fun ot1 not1 => ?_⟩
      have eot1 : upd O1 ot1 (HO.tup [V.int 1, V.int 1]) ot1 = some (HO.tup [V.int 1, V.int 1]) := upd_same
      have sot1 : Same O1 (upd O1 ot1 (HO.tup [V.int 1, V.int 1])) := same_upd not1
      try dsimp only [tNil] at not1 ⊢
      generalize upd O1 ot1 (HO.tup [V.int 1, V.int 1]) = O2 at eot1 sot1 ⊢
      clear not1
      refine ⟨_, _, rfl, rfl, (by unfold CPow; decide +kernel), (by show 7 ≤ sizeLine; decide), fun oL1 noL1 => ?_⟩
      have eoL1 : upd O2 oL1 (HO.lst [V.int (((qs.length - 1 : Nat) : Int) - 1), V.int (-1), V.int 61, V.bl true, V.str "3", V.ref ot1, V.int (10 ^ (9 : Int).toNat)]) oL1 = some (HO.lst [V.int (((qs.length - 1 : Nat) : Int) - 1), V.int (-1), V.int 61, V.bl true, V.str "3", V.ref ot1, V.int (10 ^ (9 : Int).toNat)]) := upd_same
      have soL1 : Same O2 (upd O2 oL1 (HO.lst [V.int (((qs.length - 1 : Nat) : Int) - 1), V.int (-1), V.int 61, V.bl true, V.str "3", V.ref ot1, V.int (10 ^ (9 : Int).toNat)])) := same_upd noL1
      try dsimp only [tNil] at noL1 ⊢
      generalize upd O2 oL1 (HO.lst [V.int (((qs.length - 1 : Nat) : Int) - 1), V.int (-1), V.int 61, V.bl true, V.str "3", V.ref ot1, V.int (10 ^ (9 : Int).toNat)]) = O3 at eoL1 soL1 ⊢
      clear noL1
      have o13 := sot1.trans soL1
      have PO3 := PO1.same o13
      refine ⟨p, lc, oL1, _, _, rfl, PO3, by omega, eoL1, nd PO3 eoL1 (fun _ z => by cases z), (by show 0 < 7; decide), (by show 7 < 1000000; decide), fun x O4 hx PO4 kO4 => ?_⟩
      obtain ⟨dy, hdy, dno, sdy⟩ : ∃ dy, Dt K O4 x dy ∧ dgD (qs.length - 1) dy = none ∧ small dy := by
        have ig : ∀ j : Int, ¬ (((qs.length - 1 : Nat) : Int) ≤ j ∧ j ≤ 60) → dgD (qs.length - 1) (.int j) = none := fun j h => if_neg h
        have e4 : O4 ot1 = some (.tup [.int 1, .int 1]) := kO4 _ _ (nd PO3 (soL1 _ _ eot1) (fun _ z => by cases z)) (soL1 _ _ eot1)
        simp only [List.mem_cons, List.not_mem_nil, or_false] at hx
        rcases hx with h | h | h | h | h | h | h <;> rw [h]
        · exact ⟨.int _, .int _, ig _ (by omega), (gd_int (Nat.lt_of_lt_of_le (show (((qs.length - 1 : Nat) : Int) - 1).natAbs < 2 ^ 4 by show _ < 16; omega) (Nat.pow_le_pow_right (by decide) (by decide)))).small⟩
        · exact ⟨.int _, .int _, ig _ (by omega), by unfold small; decide +kernel⟩
        · exact ⟨.int _, .int _, ig _ (by omega), by unfold small; decide +kernel⟩
        · exact ⟨.bool _, .bl _, rfl, by unfold small; decide +kernel⟩
        · exact ⟨.str _, .str _, rfl, by unfold small; decide +kernel⟩
        · exact ⟨.tuple [.int 1, .int 1], .tup (SqT.of e4) (.cons (.int _) (.cons (.int _) .nil)), rfl, by unfold small; decide +kernel⟩
        · exact ⟨.int _, .int _, ig _ (by have z : (10 : Int) ^ (9 : Int).toNat = 1000000000 := (by decide +kernel); omega), by unfold small; decide +kernel⟩
      clear hx
      have k14 : Kp p O1 O4 := (Kp.of o13).trans kO4
      have wbr : O4 br = some (.tup [v, u]) := k14 _ _ (nd PO1 ebr (fun _ z => by cases z)) ebr
      have hv4 : Dt K O4 v d := (hv.mono k14.wo).mono wo_sub
      have hu4 : Dt K O4 u e := (hu.mono k14.wo).mono wo_sub
      have k04 : Kp p N4 O4 := kO1.trans k14
      have T04 := tabs_kp PN4 k04 TN4
      have md4 : PolyQ K CP O4 md qs := hmdN.kp PN4 k04
      have h14 : TR O4 r1 lo := h1N.kp PN4 k04
      have h24 : TR O4 r2 hi := h2N.kp PN4 k04
      refine ⟨(by show 2 ≤ sizeLine; decide), fun tb ntb => ?_⟩
      have etb : upd O4 tb (HO.tup [V.ref br, x]) tb = some (HO.tup [V.ref br, x]) := upd_same
      have stb : Same O4 (upd O4 tb (HO.tup [V.ref br, x])) := same_upd ntb
      try dsimp only [tNil] at ntb ⊢
      generalize upd O4 tb (HO.tup [V.ref br, x]) = O5 at etb stb ⊢
      clear ntb
      refine ⟨tb, _, rfl, SqT.of etb, rfl, _, _, rfl, _, _, rfl, rfl, ?_⟩
      have PO5 := PO4.same stb
      have T5 := T04.ext stb
      have md5 := PolyAt.same md4 stb
      have h15 := h14.same stb
      have h25 := h24.same stb
      have hv5 := hv4.mono stb
      have hu5 := hu4.mono stb
      have hdy5 := hdy.mono stb
      have wb5 := stb _ _ wbr
      clear etb stb hv4 hu4 hdy wbr hv hu h14 h24 md4 T04 soL1 sot1 eoL1 eot1 o13 PO3 PO4
      refine why_ivE (i := 14) (v := v) (u := u) (d := d) (e := e) T5 rfl wb5 hv5 hu5 smI (fun U1 Q k eN r => ?_) (fun U1 eN T6 => ?_)
      · have wb6 := eN _ _ wb5 (fun ps z => by cases z)
        refine ⟨_, rfl, _, rfl, br, _, _, v, rfl, rfl, SqT.of wb6, at_of (j := 0) rfl rfl, _, rfl, br, _, _, u, rfl, rfl, SqT.of wb6, at_of (j := 1) rfl rfl, _, rfl, ?_⟩
        refine tnil_i ?_
        exact ⟨md, v, u, x, d, e, dy, qs, rfl, md5.n eN, lq, hv5.n eN, hu5.n eN, hdy5.n eN, szI, fun _ => r, fun z => absurd z nI⟩
      refine ⟨_, rfl, ?_⟩
      refine iteF ?_
      have md6 := md5.n eN
      have h16 := h15.n eN
      have h26 := h25.n eN
      have hdy6 := hdy5.n eN
      have PO6 := PO5.n eN
      refine why_noE (i := 15) (v := x) (d := dy) T6 rfl hdy6 sdy (fun U2 Q k eN r => ?_) (fun U2 eN T7 => ?_)
      · have ivq : IvP (pairD (pq lo)) (pairD (pq hi)) lo hi := by
          have pd : ∀ x : Rat, partsD (pairD (pq x)) = some (x.num, (x.den : Int)) := fun x => parts_pairD (p := pq x) (dpos x)
          have b20 : ∀ {x : Rat}, BqQ x → Sm20 x.num ∧ Sm20 (x.den : Int) := fun h => ⟨Nat.le_trans h.1 (by decide), by unfold Sm20; rw [Int.natAbs_natCast]; exact Nat.le_trans h.2 (by decide)⟩
          have c1 : lo.num * (hi.den : Int) < hi.num * (lo.den : Int) := (lt_cross (by rw [Rat.intCast_natCast]; exact num_den lo) (by rw [Rat.intCast_natCast]; exact num_den hi) (dpos lo) (dpos hi)).mpr lt
          exact ⟨_, _, _, _, pd lo, pd hi, dpos lo, dpos hi, (b20 bq1).1, (b20 bq1).2, (b20 bq2).1, (b20 bq2).2, by rw [Rat.intCast_natCast]; exact num_den lo, by rw [Rat.intCast_natCast]; exact num_den hi, c1⟩
        have dtr : ∀ {H : Hp} {r : Addr} {x : Rat}, TR H r x → Dt K H (.ref r) (pairD (pq x)) := fun h => .tup (SqT.of h) (.cons (.int _) (.cons (.int _) .nil))
        refine ⟨_, rfl, _, rfl, _, rfl, _, rfl, ?_⟩
        refine tnil_i ?_
        exact ⟨md, .ref r1, .ref r2, x, _, _, dy, qs, rfl, md6.n eN, lq, dtr (h16.n eN), dtr (h26.n eN), hdy6.n eN, ivq.iv.2, fun z => absurd ivq.iv.1 z, fun _ => ⟨fun _ => r, fun n hn => by rw [dno] at hn; cases hn⟩⟩
      refine ⟨_, rfl, ?_⟩
      refine iteF ?_
      exact ⟨_, _, _, _, _, _, _, _, _, _, _, _, _, rfl, (PO6.n eN).more (by omega), T7⟩
    · rintro σ H ⟨v3, v4, v5, v6, v7, v8, v9, v10, v11, v12, v13, v14, v15, rfl, hP0, T0⟩
      exact kend _
end

end Vf

set_option maxRecDepth 100000
set_option maxHeartbeats 4000000
/-! the end of a law's row, from its promise where no guard stands; what the top has written, read off -/
namespace Vf
open PySem PySem.Spec PyProof.Rows L2
/-- what is known of the law's def at the heap behind the top -/
def LawG (l : PySem.W.OpenLaw) (w : World) (K : PySem.W.Frag) (C : CXT) (k n : Nat) (x : Str) (mg : Str → Option Value) (fa : Addr) (h : Heap) : Prop :=
  ∃ (fd : FuncData) (cs : List (Addr × Addr)) (sp : Sp), (∀ p ∈ cs, h.get? p.2 = some { cls := .none, data := .fields #[] }) ∧ (∀ p ∈ cs, K.lookup p.2 = none) ∧ (∀ p ∈ cs, PySem.W.CodeHd h p.1 p.2) ∧
    (∀ (s : Shared) (u : Value), BindsTo s fd ⟨[u], []⟩ [(x, u)]) ∧
    (∀ (H : Hp) (a : Addr) (ns : List Int), ns.length ≤ n → (∀ z ∈ ns, Builtin.Int.intBits z ≤ 1048576) → (∀ p ∈ cs, H p.2 = some (.tbl #[])) → SqL K H a (ns.map V.int) → sp [.ref a] H (fun v _ => v = .bl true) E0) ∧
    ∀ b : Heap, K.In b → b.Ns mainGlobals mg → M1 b → (∀ p ∈ cs, LamX.TabB b mg p.1 p.2) → FnG l.prog w K mg b C k fa fd [x] sp
theorem walkG {l : PySem.W.OpenLaw} {n k : Nat} {q : Program} {loose : List Str} {XP : (Str → Option Value) → Heap → Prop} {YP : World → Heap → Prop} {d : DefRec} {K : Params → PySem.W.Frag} {C : World → CXT} {x : Str}
    (hn : l.most = some n) (hn2 : n ≤ sizeLine) (hdf : d.params.defaults = []) (hr : Room k callerA) (hi : importsNone q = true) (hY : ∀ (w : World) (h : Heap), YP w h → (K w.params).In h)
    (F : ∀ (w : World) (mg : Str → Option Value) (fa : Addr) (h : Heap), YP w h → (K w.params).In h → h.Ns mainGlobals mg → mg d.name = some (.ref fa) → LawG l w (K w.params) (C w) k n x mg fa h)
    (hE : ∀ (w : World) (H : Hp) (s : Shared) (e : Value) (s' : Shared), C w [] H s E0 e s' → False) : PySem.W.WalkO q loose XP YP l.row.toRowW d [] (fun f vs => PySem.call f vs) := by
  refine Att.attach_callB hn hdf fun w s0 s1 mg mb fa o pm cd doc a vs ns G Y ho hd hcd hmg hobj hints hlen hbits hg => ?_
  have X := hY w _ Y
  obtain ⟨fd, cs, sp, hT, nT, hC, bind, hsp, hF⟩ := F w mg fa _ Y X G.T.g hmg
  have m1 : M1 s1.heap := by
    obtain ⟨mm, ⟨o, es, ep, e, dt, _⟩, _⟩ := (G.T.seer hi).mods
    exact ⟨o, es, ep, e, dt⟩
  exact law_enter X G.T.g G.T.b G.T.builtins G.T.nolimit hg hT nT hC G.T.bmain m1 hobj hints (Nat.le_trans hlen hn2) hr hF bind (fun H h1 h2 => hsp H a ns hlen hbits h1 h2) fun H e s' => hE w H s1 e s'

/-- a def of the text, as the written part tells it -/
structure Wr (K : PySem.W.Frag) (qual x : Str) (st : Stmt) (f : Addr) : Prop where
  ex : ∃ fd, Fun K x qual st f fd
theorem wr_mk {K : PySem.W.Frag} {x qual : Str} {st : Stmt} {f : Addr} {oc : Value} {od an : Option Addr} {osl : Array (Option Value)} {kV doc pm cdv ct : Value} (l : K.lookup f = some ⟨oc, od, .func (PySem.W.fnOf x qual (defArgs st) (defBody st) (defScope st) .none kV doc pm an cdv ct), osl⟩)
    (c : PySem.W.codeIn K cdv qual = true) (k : PySem.W.keepIn K (.ref f) = true) : Wr K qual x st f := ⟨_, fun_mk l c k⟩
/-- an exception class, its facts in one look -/
def oexB (K : PySem.W.Frag) (C : Addr) : Bool :=
  decide (PySem.W.findIn K (.ref C) "__setattr__" = some (some (.builtin "object.__setattr__"))) && (decide (PySem.W.subIn K (.ref C) (.type "BaseException") = some true) &&
    (decide (PySem.W.typeIn K (.ref C) = some (.type "type")) && PySem.W.keepIn K (.ref C)))
theorem oexB_ok {K : PySem.W.Frag} {C : Addr} (h : oexB K C = true) (c : ∃ nm q N bs bm sn sub ab col dd k0 k1 k2 k3 k5, K.lookup C = some (excClassObj nm q C N bs bm true sn sub ab col dd k0 k1 k2 k3 k5 "ValueError.__new__") ∧ PySem.HandSPX.refsVE bm = true) : OexC K C := by
  obtain ⟨h1, h⟩ := Bool.and_eq_true_iff.mp h
  obtain ⟨h2, h⟩ := Bool.and_eq_true_iff.mp h
  obtain ⟨h3, h4⟩ := Bool.and_eq_true_iff.mp h
  exact ⟨c, of_decide_eq_true h1, of_decide_eq_true h2, of_decide_eq_true h3, h4⟩
end Vf

set_option maxRecDepth 100000
set_option maxHeartbeats 4000000
/-! the end of a row whose law makes lambdas: the tables of defs -/
namespace Vf
open PySem PySem.Spec PyProof.Rows L2
/-- the tables of the text's own defs are empty, their code objects as they come -/
def TabsG (q : Program) (K : PySem.W.Frag) (mg : Str → Option Value) (h : Heap) : Prop :=
  ∀ (x : Str) (f c Pt : Addr) (o : Obj) (fd : FuncData) (e : Value) (dd : Option Addr) (vs : Array Value) (sl : Array (Option Value)), ((recsOf q).any fun e => e.name == x) = true → mg x = some (.ref f) → K.lookup f = some o → o.data = .func fd → fd.code = .ref c →
    K.lookup c = some ⟨e, dd, .fields vs, sl⟩ → vs[11]? = some (.ref Pt) → PySem.W.CodeHd h c Pt ∧ h.get? Pt = some { cls := .none, data := .fields #[] }
theorem walkT {l : PySem.W.OpenLaw} {n k : Nat} {q : Program} {loose : List Str} {XP : (Str → Option Value) → Heap → Prop} {YP : World → Heap → Prop} {d : DefRec} {K : Params → PySem.W.Frag} {C : World → CXT} {x : Str}
    (hn : l.most = some n) (hn2 : n ≤ sizeLine) (hdf : d.params.defaults = []) (hr : Room k callerA) (hi : importsNone q = true) (hY : ∀ (w : World) (h : Heap), YP w h → (K w.params).In h)
    (F : ∀ (w : World) (mg : Str → Option Value) (fa : Addr) (h : Heap), YP w h → (K w.params).In h → h.Ns mainGlobals mg → mg d.name = some (.ref fa) → TabsG q (K w.params) mg h → LawG l w (K w.params) (C w) k n x mg fa h)
    (hE : ∀ (w : World) (H : Hp) (s : Shared) (e : Value) (s' : Shared), C w [] H s E0 e s' → False) : PySem.W.WalkO q loose XP YP l.row.toRowW d [] (fun f vs => PySem.call f vs) := by
  refine Att.attach_callB hn hdf fun w s0 s1 mg mb fa o pm cd doc a vs ns G Y ho hd hcd hmg hobj hints hlen hbits hg => ?_
  have X := hY w _ Y
  have tabs : TabsG q (K w.params) mg s1.heap := fun x f c Pt o1 fd1 e dd vs1 sl hrec k0 k1 k2 k3 k4 k5 => by
    obtain ⟨dL, hm, hn1⟩ := List.any_eq_true.mp hrec
    have hn2 : dL.name = x := beq_iff_eq.mp hn1
    obtain ⟨a', o', fd', c', P', h1, h2, h3, h4, h5, h6⟩ := G.T.tab dL hm
    rw [hn2, k0] at h1
    cases h1
    have g1 := X _ _ k1
    rw [g1] at h2
    cases h2
    rw [k2] at h3
    cases h3
    rw [k3] at h4
    cases h4
    have h6' := h6
    obtain ⟨⟨oc, vc, e1, _, e3, e4⟩, hP⟩ := h6'
    have g2 := X _ _ k4
    rw [g2] at e1
    cases e1
    cases e3
    rw [k5] at e4
    cases e4
    exact ⟨PySem.W.CodeHd.of h5 h6, hP⟩
  obtain ⟨fd, cs, sp, hT, nT, hC, bind, hsp, hF⟩ := F w mg fa _ Y X G.T.g hmg tabs
  have m1 : M1 s1.heap := by
    obtain ⟨mm, ⟨o, es, ep, e, dt, _⟩, _⟩ := (G.T.seer hi).mods
    exact ⟨o, es, ep, e, dt⟩
  exact law_enter X G.T.g G.T.b G.T.builtins G.T.nolimit hg hT nT hC G.T.bmain m1 hobj hints (Nat.le_trans hlen hn2) hr hF bind (fun H h1 h2 => hsp H a ns hlen hbits h1 h2) fun H e s' => hE w H s1 e s'
end Vf

set_option maxRecDepth 100000
set_option maxHeartbeats 8000000
namespace Vf
open PySem PySem.Spec PyProof.Rows L2
/-! ### what the top has written -/
def tyNames : List String := ["NoneType", "bool", "int", "str", "list", "tuple", "dict"]
def polyB (K : PySem.W.Frag) (CP : Addr) : Bool :=
  PySem.W.plainGet K CP Str.empty && (PySem.W.hasDictIn K CP && (PySem.W.plainOver K CP && (decide (PySem.W.findIn K (.ref CP) "__setattr__" = some (some (.builtin "object.__setattr__"))) && (decide (PySem.W.findIn K (.ref CP) "numbers" = some none) &&
  (decide (PySem.W.findIn K (.ref CP) "__class__" = some (some (.builtin "object.__class__"))) && (decide (PySem.W.specialIn K (.builtin "object.__class__") "__get__" = some (some (.builtin "getset_descriptor.__get__"))) &&
  (decide (PySem.W.takesIn K (.builtin "object.__class__") = some true) && (decide (PySem.W.mroIn K CP (.type "object") = some true) && (tyNames.all (fun t => decide (PySem.W.kitOne K (.type t) (.ref CP) = some false) && PySem.W.notFirst K CP (.type t)) &&
  (PySem.W.notFirst K CP (.ref CP) && (PySem.W.makesIn K CP && PySem.W.keepIn K (.ref CP))))))))))))
theorem tyD_mem (d : PyData) : tyD d ∈ tyNames := by
  cases d <;> simp [tyD, tyNames]
theorem polyC {K : PySem.W.Frag} {mg : Str → Option Value} {CP : Addr} (m : mg "Poly" = some (.ref CP)) (h : polyB K CP = true) : PoC K mg CP ∧ PySem.W.makesIn K CP = true ∧ PySem.W.keepIn K (.ref CP) = true := by
  obtain ⟨h1, h⟩ := Bool.and_eq_true_iff.mp h
  obtain ⟨h2, h⟩ := Bool.and_eq_true_iff.mp h
  obtain ⟨h3, h⟩ := Bool.and_eq_true_iff.mp h
  obtain ⟨h4, h⟩ := Bool.and_eq_true_iff.mp h
  obtain ⟨h5, h⟩ := Bool.and_eq_true_iff.mp h
  obtain ⟨h6, h⟩ := Bool.and_eq_true_iff.mp h
  obtain ⟨h7, h⟩ := Bool.and_eq_true_iff.mp h
  obtain ⟨h8, h⟩ := Bool.and_eq_true_iff.mp h
  obtain ⟨h9, h⟩ := Bool.and_eq_true_iff.mp h
  obtain ⟨h10, h⟩ := Bool.and_eq_true_iff.mp h
  obtain ⟨h11, h⟩ := Bool.and_eq_true_iff.mp h
  obtain ⟨h12, h13⟩ := Bool.and_eq_true_iff.mp h
  have z := fun d : PyData => Bool.and_eq_true_iff.mp (List.all_eq_true.mp h10 (tyD d) (tyD_mem d))
  exact ⟨⟨m, ⟨h1, h2, h3, of_decide_eq_true h4⟩, (of_decide_eq_true h5 : PySem.W.findIn K (.ref CP) "numbers" = some none), of_decide_eq_true h6, of_decide_eq_true h7, of_decide_eq_true h8, of_decide_eq_true h9, fun d => of_decide_eq_true (z d).1, h11, fun d => (z d).2⟩, h12, h13⟩
theorem fn_of_ty {K : PySem.W.Frag} {f : Addr} (h : PySem.W.typeIn K (.ref f) = some (.type "function")) : PySem.W.isFn K (.ref f) = true := by
  unfold PySem.W.isFn
  rw [h]
  decide +kernel
theorem corners_b4 {K : PySem.W.Frag} {f : Addr} {fd : FuncData} (F : FunD K "corners" "corners" (defArgs sCorners) (defBody sCorners) (defScope sCorners) [V.non] [] f fd) : Binds K fd ["poly", "low", "high", "degree"] [] := by
  obtain ⟨ds, h1, h2⟩ := F.binds1 (ps := ["poly", "low", "high", "degree"]) 4 1 (by simp) rfl fun T kV doc pm an cdv ct us its h1 h2 => by
    match us, h1, its, h2 with
    | [a, b, c, d], _, [e], _ => exact ⟨_, rfl, rfl⟩
  cases h1
  exact h2
theorem corners_b3 {K : PySem.W.Frag} {f : Addr} {fd : FuncData} (F : FunD K "corners" "corners" (defArgs sCorners) (defBody sCorners) (defScope sCorners) [V.non] [] f fd) : ∃ ds, Vals [V.non] ds ∧ Binds K fd ["poly", "low", "high", "degree"] ds := by
  exact F.binds1 (ps := ["poly", "low", "high", "degree"]) 3 0 (by simp) rfl fun T kV doc pm an cdv ct us its h1 h2 => by
    match us, h1, its, h2 with
    | [a, b, c], _, [e], _ => exact ⟨_, rfl, rfl⟩
theorem corners_bk {K : PySem.W.Frag} {f : Addr} {fd : FuncData} (F : FunD K "corners" "corners" (defArgs sCorners) (defBody sCorners) (defScope sCorners) [V.non] [] f fd) : ∃ g, KBn K fd ["poly", "low", "high", "degree"] 3 ["degree"] g (fun vs zs => vs ++ zs) := by
  obtain ⟨its, h⟩ := F.kbindsD (ps := ["poly", "low", "high", "degree"]) 3 ["degree"] (fun vs _ zs => vs ++ zs) (by simp) (fun h1 _ h3 => h1.append h3) fun T kV doc pm an cdv ct us its ws h1 h2 h3 => by
    match us, h1, its, h2, ws, h3 with
    | [a, b, c], _, [e], _, [z], _ => exact ⟨_, rfl, rfl⟩
  exact ⟨_, h⟩
theorem all_mk {l : PySem.W.OpenLaw} {w : World} {K : PySem.W.Frag} {h : Heap} {mg : Str → Option Value} {fa : Addr} {q : Program}
    {C0 C1 C2 i0 i1 i2 f0 f1 f2 f3 f4 f5 f6 f7 f8 f9 f10 f11 f12 f13 f14 f15 f16 f17 f18 f19 f20 f21 f22 f23 f24 f25 f26 f27 f28 f29 f30 f31 f32 f33 f34 f35 f36 f37 f38 f39 f40 f41 f42 f43 Cg g0 g1 g2 cL Pt dT : Addr}
    {eL : Value} {dL : Option Addr} {vL : Array Value} {sL : Array (Option Value)} {eT : Value} {fT : Option Addr} {nT : Nat} {sT : Array (Option Value)}
    {ocf0 kVf0 dcf0 pmf0 cdf0 ctf0 : Value} {odf0 anf0 : Option Addr} {slf0 : Array (Option Value)}
    {ocf1 kVf1 dcf1 pmf1 cdf1 ctf1 : Value} {odf1 anf1 : Option Addr} {slf1 : Array (Option Value)}
    {ocf2 kVf2 dcf2 pmf2 cdf2 ctf2 : Value} {odf2 anf2 : Option Addr} {slf2 : Array (Option Value)}
    {ocf3 kVf3 dcf3 pmf3 cdf3 ctf3 : Value} {odf3 anf3 : Option Addr} {slf3 : Array (Option Value)}
    {ocf4 kVf4 dcf4 pmf4 cdf4 ctf4 : Value} {odf4 anf4 : Option Addr} {slf4 : Array (Option Value)}
    {ocf5 kVf5 dcf5 pmf5 cdf5 ctf5 : Value} {odf5 anf5 : Option Addr} {slf5 : Array (Option Value)}
    {ocf6 kVf6 dcf6 pmf6 cdf6 ctf6 : Value} {odf6 anf6 : Option Addr} {slf6 : Array (Option Value)}
    {ocf7 kVf7 dcf7 pmf7 cdf7 ctf7 : Value} {odf7 anf7 : Option Addr} {slf7 : Array (Option Value)}
    {ocf8 kVf8 dcf8 pmf8 cdf8 ctf8 : Value} {odf8 anf8 : Option Addr} {slf8 : Array (Option Value)}
    {ocf9 kVf9 dcf9 pmf9 cdf9 ctf9 : Value} {odf9 anf9 : Option Addr} {slf9 : Array (Option Value)}
    {ocf10 kVf10 dcf10 pmf10 cdf10 ctf10 : Value} {odf10 anf10 : Option Addr} {slf10 : Array (Option Value)}
    {ocf11 kVf11 dcf11 pmf11 cdf11 ctf11 : Value} {odf11 anf11 : Option Addr} {slf11 : Array (Option Value)}
    {ocf12 kVf12 dcf12 pmf12 cdf12 ctf12 : Value} {odf12 anf12 : Option Addr} {slf12 : Array (Option Value)}
    {ocf13 kVf13 dcf13 pmf13 cdf13 ctf13 : Value} {odf13 anf13 : Option Addr} {slf13 : Array (Option Value)}
    {ocf14 kVf14 dcf14 pmf14 cdf14 ctf14 : Value} {odf14 anf14 : Option Addr} {slf14 : Array (Option Value)}
    {ocf15 kVf15 dcf15 pmf15 cdf15 ctf15 : Value} {odf15 anf15 : Option Addr} {slf15 : Array (Option Value)}
    {ocf16 kVf16 dcf16 pmf16 cdf16 ctf16 : Value} {odf16 anf16 : Option Addr} {slf16 : Array (Option Value)}
    {ocf17 kVf17 dcf17 pmf17 cdf17 ctf17 : Value} {odf17 anf17 : Option Addr} {slf17 : Array (Option Value)}
    {ocf18 kVf18 dcf18 pmf18 cdf18 ctf18 : Value} {odf18 anf18 : Option Addr} {slf18 : Array (Option Value)}
    {ocf19 kVf19 dcf19 pmf19 cdf19 ctf19 : Value} {odf19 anf19 : Option Addr} {slf19 : Array (Option Value)}
    {ocf20 kVf20 dcf20 pmf20 cdf20 ctf20 : Value} {odf20 anf20 : Option Addr} {slf20 : Array (Option Value)}
    {ocf21 kVf21 dcf21 pmf21 cdf21 ctf21 : Value} {odf21 anf21 : Option Addr} {slf21 : Array (Option Value)}
    {ocf22 kVf22 dcf22 pmf22 cdf22 ctf22 : Value} {odf22 anf22 : Option Addr} {slf22 : Array (Option Value)}
    {ocf23 kVf23 dcf23 pmf23 cdf23 ctf23 : Value} {odf23 anf23 : Option Addr} {slf23 : Array (Option Value)}
    {ocf24 kVf24 dcf24 pmf24 cdf24 ctf24 : Value} {odf24 anf24 : Option Addr} {slf24 : Array (Option Value)}
    {ocf25 kVf25 dcf25 pmf25 cdf25 ctf25 : Value} {odf25 anf25 : Option Addr} {slf25 : Array (Option Value)}
    {ocf26 kVf26 dcf26 pmf26 cdf26 ctf26 : Value} {odf26 anf26 : Option Addr} {slf26 : Array (Option Value)}
    {ocf27 kVf27 dcf27 pmf27 cdf27 ctf27 : Value} {odf27 anf27 : Option Addr} {slf27 : Array (Option Value)}
    {ocf28 kVf28 dcf28 pmf28 cdf28 ctf28 : Value} {odf28 anf28 : Option Addr} {slf28 : Array (Option Value)}
    {ocf29 kVf29 dcf29 pmf29 cdf29 ctf29 : Value} {odf29 anf29 : Option Addr} {slf29 : Array (Option Value)}
    {ocf30 kVf30 dcf30 pmf30 cdf30 ctf30 : Value} {odf30 anf30 : Option Addr} {slf30 : Array (Option Value)}
    {ocf31 kVf31 dcf31 pmf31 cdf31 ctf31 : Value} {odf31 anf31 : Option Addr} {slf31 : Array (Option Value)}
    {ocf32 kVf32 dcf32 pmf32 cdf32 ctf32 : Value} {odf32 anf32 : Option Addr} {slf32 : Array (Option Value)}
    {ocf33 kVf33 dcf33 pmf33 cdf33 ctf33 : Value} {odf33 anf33 : Option Addr} {slf33 : Array (Option Value)}
    {ocf34 kVf34 dcf34 pmf34 cdf34 ctf34 : Value} {odf34 anf34 : Option Addr} {slf34 : Array (Option Value)}
    {ocf35 kVf35 dcf35 pmf35 cdf35 ctf35 : Value} {odf35 anf35 : Option Addr} {slf35 : Array (Option Value)}
    {ocf36 kVf36 dcf36 pmf36 cdf36 ctf36 : Value} {odf36 anf36 : Option Addr} {slf36 : Array (Option Value)}
    {ocf37 kVf37 dcf37 pmf37 cdf37 ctf37 : Value} {odf37 anf37 : Option Addr} {slf37 : Array (Option Value)}
    {ocf38 kVf38 dcf38 pmf38 cdf38 ctf38 : Value} {odf38 anf38 : Option Addr} {slf38 : Array (Option Value)}
    {ocf39 kVf39 dcf39 pmf39 cdf39 ctf39 : Value} {odf39 anf39 : Option Addr} {slf39 : Array (Option Value)}
    {ocf40 kVf40 dcf40 pmf40 cdf40 ctf40 : Value} {odf40 anf40 : Option Addr} {slf40 : Array (Option Value)}
    {ocf41 kVf41 dcf41 pmf41 cdf41 ctf41 : Value} {odf41 anf41 : Option Addr} {slf41 : Array (Option Value)}
    {ocf42 kVf42 dcf42 pmf42 cdf42 ctf42 : Value} {odf42 anf42 : Option Addr} {slf42 : Array (Option Value)}
    {ocf43 kVf43 dcf43 pmf43 ctf43 : Value} {odf43 anf43 : Option Addr} {slf43 : Array (Option Value)}
    {tkMOST_DEGREE : Tok}
    {oci0 kVi0 dci0 pmi0 cdi0 cti0 : Value} {odi0 ani0 : Option Addr} {sli0 : Array (Option Value)}
    {nm0 qn0 : Str} {N0 : Addr} {bs0 bm0 sub0 : List Value} {sn0 : List Str} {ab0 : Bool} {col0 : Option Bool} {dd0 : Option Addr} {ka0 kb0 kc0 kd0 ke0 : Option Value}
    {oci1 kVi1 dci1 pmi1 cdi1 cti1 : Value} {odi1 ani1 : Option Addr} {sli1 : Array (Option Value)}
    {nm1 qn1 : Str} {N1 : Addr} {bs1 bm1 sub1 : List Value} {sn1 : List Str} {ab1 : Bool} {col1 : Option Bool} {dd1 : Option Addr} {ka1 kb1 kc1 kd1 ke1 : Option Value}
    {oci2 kVi2 dci2 pmi2 cdi2 cti2 : Value} {odi2 ani2 : Option Addr} {sli2 : Array (Option Value)}
    {nm2 qn2 : Str} {N2 : Addr} {bs2 bm2 sub2 : List Value} {sn2 : List Str} {ab2 : Bool} {col2 : Option Bool} {dd2 : Option Addr} {ka2 kb2 kc2 kd2 ke2 : Option Value}
    {ocg0 kVg0 dcg0 pmg0 cdg0 ctg0 : Value} {odg0 ang0 : Option Addr} {slg0 : Array (Option Value)}
    {ocg1 kVg1 dcg1 pmg1 cdg1 ctg1 : Value} {odg1 ang1 : Option Addr} {slg1 : Array (Option Value)}
    {ocg2 kVg2 dcg2 pmg2 cdg2 ctg2 : Value} {odg2 ang2 : Option Addr} {slg2 : Array (Option Value)}
    (X : K.In h) (G : h.Ns mainGlobals mg) (hfa : mg "law" = some (.ref fa)) (TB : TabsG q K mg h)
    (a0 : PySem.W.nsIn K mainGlobals "_law_pen" = some (some (.ref f0)))
    (l0 : K.lookup f0 = some ⟨ocf0, odf0, .func (PySem.W.fnOf "_law_pen" "_law_pen" (defArgs sPen) (defBody sPen) (defScope sPen) .none kVf0 dcf0 pmf0 anf0 cdf0 ctf0), slf0⟩)
    (c0 : PySem.W.codeIn K cdf0 "_law_pen" = true)
    (k0 : PySem.W.keepIn K (.ref f0) = true)
    (a1 : PySem.W.nsIn K mainGlobals "_law_draw" = some (some (.ref f1)))
    (l1 : K.lookup f1 = some ⟨ocf1, odf1, .func (PySem.W.fnOf "_law_draw" "_law_draw" (defArgs sDraw) (defBody sDraw) (defScope sDraw) .none kVf1 dcf1 pmf1 anf1 cdf1 ctf1), slf1⟩)
    (c1 : PySem.W.codeIn K cdf1 "_law_draw" = true)
    (k1 : PySem.W.keepIn K (.ref f1) = true)
    (a2 : PySem.W.nsIn K mainGlobals "_law_pick" = some (some (.ref f2)))
    (l2 : K.lookup f2 = some ⟨ocf2, odf2, .func (PySem.W.fnOf "_law_pick" "_law_pick" (defArgs sPick) (defBody sPick) (defScope sPick) .none kVf2 dcf2 pmf2 anf2 cdf2 ctf2), slf2⟩)
    (c2 : PySem.W.codeIn K cdf2 "_law_pick" = true)
    (k2 : PySem.W.keepIn K (.ref f2) = true)
    (a3 : PySem.W.nsIn K mainGlobals "is_whole" = some (some (.ref f3)))
    (l3 : K.lookup f3 = some ⟨ocf3, odf3, .func (PySem.W.fnOf "is_whole" "is_whole" (defArgs sIsWhole) (defBody sIsWhole) (defScope sIsWhole) .none kVf3 dcf3 pmf3 anf3 cdf3 ctf3), slf3⟩)
    (c3 : PySem.W.codeIn K cdf3 "is_whole" = true)
    (k3 : PySem.W.keepIn K (.ref f3) = true)
    (a4 : PySem.W.nsIn K mainGlobals "is_ratio" = some (some (.ref f4)))
    (l4 : K.lookup f4 = some ⟨ocf4, odf4, .func (PySem.W.fnOf "is_ratio" "is_ratio" (defArgs sIsRatio) (defBody sIsRatio) (defScope sIsRatio) .none kVf4 dcf4 pmf4 anf4 cdf4 ctf4), slf4⟩)
    (c4 : PySem.W.codeIn K cdf4 "is_ratio" = true)
    (k4 : PySem.W.keepIn K (.ref f4) = true)
    (a5 : PySem.W.nsIn K mainGlobals "is_ratio_row" = some (some (.ref f5)))
    (l5 : K.lookup f5 = some ⟨ocf5, odf5, .func (PySem.W.fnOf "is_ratio_row" "is_ratio_row" (defArgs sIsRow) (defBody sIsRow) (defScope sIsRow) .none kVf5 dcf5 pmf5 anf5 cdf5 ctf5), slf5⟩)
    (c5 : PySem.W.codeIn K cdf5 "is_ratio_row" = true)
    (k5 : PySem.W.keepIn K (.ref f5) = true)
    (a6 : PySem.W.nsIn K mainGlobals "lowest" = some (some (.ref f6)))
    (l6 : K.lookup f6 = some ⟨ocf6, odf6, .func (PySem.W.fnOf "lowest" "lowest" (defArgs sLowest) (defBody sLowest) (defScope sLowest) .none kVf6 dcf6 pmf6 anf6 cdf6 ctf6), slf6⟩)
    (c6 : PySem.W.codeIn K cdf6 "lowest" = true)
    (k6 : PySem.W.keepIn K (.ref f6) = true)
    (a7 : PySem.W.nsIn K mainGlobals "parts_of" = some (some (.ref f7)))
    (l7 : K.lookup f7 = some ⟨ocf7, odf7, .func (PySem.W.fnOf "parts_of" "parts_of" (defArgs sParts) (defBody sParts) (defScope sParts) .none kVf7 dcf7 pmf7 anf7 cdf7 ctf7), slf7⟩)
    (c7 : PySem.W.codeIn K cdf7 "parts_of" = true)
    (k7 : PySem.W.keepIn K (.ref f7) = true)
    (a8 : PySem.W.nsIn K mainGlobals "told" = some (some (.ref f8)))
    (l8 : K.lookup f8 = some ⟨ocf8, odf8, .func (PySem.W.fnOf "told" "told" (defArgs sTold) (defBody sTold) (defScope sTold) .none kVf8 dcf8 pmf8 anf8 cdf8 ctf8), slf8⟩)
    (c8 : PySem.W.codeIn K cdf8 "told" = true)
    (k8 : PySem.W.keepIn K (.ref f8) = true)
    (a9 : PySem.W.nsIn K mainGlobals "lower" = some (some (.ref f9)))
    (l9 : K.lookup f9 = some ⟨ocf9, odf9, .func (PySem.W.fnOf "lower" "lower" (defArgs sLower) (defBody sLower) (defScope sLower) .none kVf9 dcf9 pmf9 anf9 cdf9 ctf9), slf9⟩)
    (c9 : PySem.W.codeIn K cdf9 "lower" = true)
    (k9 : PySem.W.keepIn K (.ref f9) = true)
    (a10 : PySem.W.nsIn K mainGlobals "is_whole_within" = some (some (.ref f10)))
    (l10 : K.lookup f10 = some ⟨ocf10, odf10, .func (PySem.W.fnOf "is_whole_within" "is_whole_within" (defArgs sWithin) (defBody sWithin) (defScope sWithin) .none kVf10 dcf10 pmf10 anf10 cdf10 ctf10), slf10⟩)
    (c10 : PySem.W.codeIn K cdf10 "is_whole_within" = true)
    (k10 : PySem.W.keepIn K (.ref f10) = true)
    (a11 : PySem.W.nsIn K mainGlobals "need_interval" = some (some (.ref f11)))
    (l11 : K.lookup f11 = some ⟨ocf11, odf11, .func (PySem.W.fnOf "need_interval" "need_interval" (defArgs sNeedI) (defBody sNeedI) (defScope sNeedI) .none kVf11 dcf11 pmf11 anf11 cdf11 ctf11), slf11⟩)
    (c11 : PySem.W.codeIn K cdf11 "need_interval" = true)
    (k11 : PySem.W.keepIn K (.ref f11) = true)
    (a12 : PySem.W.nsIn K mainGlobals "over_one_bottom" = some (some (.ref f12)))
    (l12 : K.lookup f12 = some ⟨ocf12, odf12, .func (PySem.W.fnOf "over_one_bottom" "over_one_bottom" (defArgs sOver2) (defBody sOver2) (defScope sOver2) .none kVf12 dcf12 pmf12 anf12 cdf12 ctf12), slf12⟩)
    (c12 : PySem.W.codeIn K cdf12 "over_one_bottom" = true)
    (k12 : PySem.W.keepIn K (.ref f12) = true)
    (a13 : PySem.W.nsIn K mainGlobals "stretched_row" = some (some (.ref f13)))
    (l13 : K.lookup f13 = some ⟨ocf13, odf13, .func (PySem.W.fnOf "stretched_row" "stretched_row" (defArgs sStretch) (defBody sStretch) (defScope sStretch) .none kVf13 dcf13 pmf13 anf13 cdf13 ctf13), slf13⟩)
    (c13 : PySem.W.codeIn K cdf13 "stretched_row" = true)
    (k13 : PySem.W.keepIn K (.ref f13) = true)
    (a14 : PySem.W.nsIn K mainGlobals "scaled_row" = some (some (.ref f14)))
    (l14 : K.lookup f14 = some ⟨ocf14, odf14, .func (PySem.W.fnOf "scaled_row" "scaled_row" (defArgs sScaled) (defBody sScaled) (defScope sScaled) .none kVf14 dcf14 pmf14 anf14 cdf14 ctf14), slf14⟩)
    (c14 : PySem.W.codeIn K cdf14 "scaled_row" = true)
    (k14 : PySem.W.keepIn K (.ref f14) = true)
    (a15 : PySem.W.nsIn K mainGlobals "moved_row" = some (some (.ref f15)))
    (l15 : K.lookup f15 = some ⟨ocf15, odf15, .func (PySem.W.fnOf "moved_row" "moved_row" (defArgs sMovedR) (defBody sMovedR) (defScope sMovedR) .none kVf15 dcf15 pmf15 anf15 cdf15 ctf15), slf15⟩)
    (c15 : PySem.W.codeIn K cdf15 "moved_row" = true)
    (k15 : PySem.W.keepIn K (.ref f15) = true)
    (a16 : PySem.W.nsIn K mainGlobals "corner_row" = some (some (.ref f16)))
    (l16 : K.lookup f16 = some ⟨ocf16, odf16, .func (PySem.W.fnOf "corner_row" "corner_row" (defArgs sCorner) (defBody sCorner) (defScope sCorner) .none kVf16 dcf16 pmf16 anf16 cdf16 ctf16), slf16⟩)
    (c16 : PySem.W.codeIn K cdf16 "corner_row" = true)
    (k16 : PySem.W.keepIn K (.ref f16) = true)
    (a17 : PySem.W.nsIn K mainGlobals "corners" = some (some (.ref f17)))
    (l17 : K.lookup f17 = some ⟨ocf17, odf17, .func (PySem.W.fnOf "corners" "corners" (defArgs sCorners) (defBody sCorners) (defScope sCorners) (.ref dT) kVf17 dcf17 pmf17 anf17 cdf17 ctf17), slf17⟩)
    (c17 : PySem.W.codeIn K cdf17 "corners" = true)
    (k17 : PySem.W.keepIn K (.ref f17) = true)
    (a18 : PySem.W.nsIn K mainGlobals "ratios_over" = some (some (.ref f18)))
    (l18 : K.lookup f18 = some ⟨ocf18, odf18, .func (PySem.W.fnOf "ratios_over" "ratios_over" (defArgs sRatios) (defBody sRatios) (defScope sRatios) .none kVf18 dcf18 pmf18 anf18 cdf18 ctf18), slf18⟩)
    (c18 : PySem.W.codeIn K cdf18 "ratios_over" = true)
    (k18 : PySem.W.keepIn K (.ref f18) = true)
    (a19 : PySem.W.nsIn K mainGlobals "_law_is_whole" = some (some (.ref f19)))
    (l19 : K.lookup f19 = some ⟨ocf19, odf19, .func (PySem.W.fnOf "_law_is_whole" "_law_is_whole" (defArgs sLWhole) (defBody sLWhole) (defScope sLWhole) .none kVf19 dcf19 pmf19 anf19 cdf19 ctf19), slf19⟩)
    (c19 : PySem.W.codeIn K cdf19 "_law_is_whole" = true)
    (k19 : PySem.W.keepIn K (.ref f19) = true)
    (a20 : PySem.W.nsIn K mainGlobals "_law_gcd" = some (some (.ref f20)))
    (l20 : K.lookup f20 = some ⟨ocf20, odf20, .func (PySem.W.fnOf "_law_gcd" "_law_gcd" (defArgs sLGcd) (defBody sLGcd) (defScope sLGcd) .none kVf20 dcf20 pmf20 anf20 cdf20 ctf20), slf20⟩)
    (c20 : PySem.W.codeIn K cdf20 "_law_gcd" = true)
    (k20 : PySem.W.keepIn K (.ref f20) = true)
    (a21 : PySem.W.nsIn K mainGlobals "_law_q" = some (some (.ref f21)))
    (l21 : K.lookup f21 = some ⟨ocf21, odf21, .func (PySem.W.fnOf "_law_q" "_law_q" (defArgs sLQ) (defBody sLQ) (defScope sLQ) .none kVf21 dcf21 pmf21 anf21 cdf21 ctf21), slf21⟩)
    (c21 : PySem.W.codeIn K cdf21 "_law_q" = true)
    (k21 : PySem.W.keepIn K (.ref f21) = true)
    (a22 : PySem.W.nsIn K mainGlobals "_law_plus" = some (some (.ref f22)))
    (l22 : K.lookup f22 = some ⟨ocf22, odf22, .func (PySem.W.fnOf "_law_plus" "_law_plus" (defArgs sLPlus) (defBody sLPlus) (defScope sLPlus) .none kVf22 dcf22 pmf22 anf22 cdf22 ctf22), slf22⟩)
    (c22 : PySem.W.codeIn K cdf22 "_law_plus" = true)
    (k22 : PySem.W.keepIn K (.ref f22) = true)
    (a23 : PySem.W.nsIn K mainGlobals "_law_minus" = some (some (.ref f23)))
    (l23 : K.lookup f23 = some ⟨ocf23, odf23, .func (PySem.W.fnOf "_law_minus" "_law_minus" (defArgs sLMinus) (defBody sLMinus) (defScope sLMinus) .none kVf23 dcf23 pmf23 anf23 cdf23 ctf23), slf23⟩)
    (c23 : PySem.W.codeIn K cdf23 "_law_minus" = true)
    (k23 : PySem.W.keepIn K (.ref f23) = true)
    (a24 : PySem.W.nsIn K mainGlobals "_law_times" = some (some (.ref f24)))
    (l24 : K.lookup f24 = some ⟨ocf24, odf24, .func (PySem.W.fnOf "_law_times" "_law_times" (defArgs sLTimes) (defBody sLTimes) (defScope sLTimes) .none kVf24 dcf24 pmf24 anf24 cdf24 ctf24), slf24⟩)
    (c24 : PySem.W.codeIn K cdf24 "_law_times" = true)
    (k24 : PySem.W.keepIn K (.ref f24) = true)
    (a25 : PySem.W.nsIn K mainGlobals "_law_share" = some (some (.ref f25)))
    (l25 : K.lookup f25 = some ⟨ocf25, odf25, .func (PySem.W.fnOf "_law_share" "_law_share" (defArgs sLShare) (defBody sLShare) (defScope sLShare) .none kVf25 dcf25 pmf25 anf25 cdf25 ctf25), slf25⟩)
    (c25 : PySem.W.codeIn K cdf25 "_law_share" = true)
    (k25 : PySem.W.keepIn K (.ref f25) = true)
    (a26 : PySem.W.nsIn K mainGlobals "_law_less" = some (some (.ref f26)))
    (l26 : K.lookup f26 = some ⟨ocf26, odf26, .func (PySem.W.fnOf "_law_less" "_law_less" (defArgs sLLess) (defBody sLLess) (defScope sLLess) .none kVf26 dcf26 pmf26 anf26 cdf26 ctf26), slf26⟩)
    (c26 : PySem.W.codeIn K cdf26 "_law_less" = true)
    (k26 : PySem.W.keepIn K (.ref f26) = true)
    (a27 : PySem.W.nsIn K mainGlobals "_law_is_ratio" = some (some (.ref f27)))
    (l27 : K.lookup f27 = some ⟨ocf27, odf27, .func (PySem.W.fnOf "_law_is_ratio" "_law_is_ratio" (defArgs sLIsRatio) (defBody sLIsRatio) (defScope sLIsRatio) .none kVf27 dcf27 pmf27 anf27 cdf27 ctf27), slf27⟩)
    (c27 : PySem.W.codeIn K cdf27 "_law_is_ratio" = true)
    (k27 : PySem.W.keepIn K (.ref f27) = true)
    (a28 : PySem.W.nsIn K mainGlobals "_law_passed" = some (some (.ref f28)))
    (l28 : K.lookup f28 = some ⟨ocf28, odf28, .func (PySem.W.fnOf "_law_passed" "_law_passed" (defArgs sPassed) (defBody sPassed) (defScope sPassed) .none kVf28 dcf28 pmf28 anf28 cdf28 ctf28), slf28⟩)
    (c28 : PySem.W.codeIn K cdf28 "_law_passed" = true)
    (k28 : PySem.W.keepIn K (.ref f28) = true)
    (a29 : PySem.W.nsIn K mainGlobals "_law_ratio" = some (some (.ref f29)))
    (l29 : K.lookup f29 = some ⟨ocf29, odf29, .func (PySem.W.fnOf "_law_ratio" "_law_ratio" (defArgs sLRatio) (defBody sLRatio) (defScope sLRatio) .none kVf29 dcf29 pmf29 anf29 cdf29 ctf29), slf29⟩)
    (c29 : PySem.W.codeIn K cdf29 "_law_ratio" = true)
    (k29 : PySem.W.keepIn K (.ref f29) = true)
    (a30 : PySem.W.nsIn K mainGlobals "_law_interval" = some (some (.ref f30)))
    (l30 : K.lookup f30 = some ⟨ocf30, odf30, .func (PySem.W.fnOf "_law_interval" "_law_interval" (defArgs sIv) (defBody sIv) (defScope sIv) .none kVf30 dcf30 pmf30 anf30 cdf30 ctf30), slf30⟩)
    (c30 : PySem.W.codeIn K cdf30 "_law_interval" = true)
    (k30 : PySem.W.keepIn K (.ref f30) = true)
    (a31 : PySem.W.nsIn K mainGlobals "_law_middle" = some (some (.ref f31)))
    (l31 : K.lookup f31 = some ⟨ocf31, odf31, .func (PySem.W.fnOf "_law_middle" "_law_middle" (defArgs sLMid) (defBody sLMid) (defScope sLMid) .none kVf31 dcf31 pmf31 anf31 cdf31 ctf31), slf31⟩)
    (c31 : PySem.W.codeIn K cdf31 "_law_middle" = true)
    (k31 : PySem.W.keepIn K (.ref f31) = true)
    (a32 : PySem.W.nsIn K mainGlobals "_law_poly" = some (some (.ref f32)))
    (l32 : K.lookup f32 = some ⟨ocf32, odf32, .func (PySem.W.fnOf "_law_poly" "_law_poly" (defArgs sLPoly) (defBody sLPoly) (defScope sLPoly) .none kVf32 dcf32 pmf32 anf32 cdf32 ctf32), slf32⟩)
    (c32 : PySem.W.codeIn K cdf32 "_law_poly" = true)
    (k32 : PySem.W.keepIn K (.ref f32) = true)
    (a33 : PySem.W.nsIn K mainGlobals "_law_p_plus" = some (some (.ref f33)))
    (l33 : K.lookup f33 = some ⟨ocf33, odf33, .func (PySem.W.fnOf "_law_p_plus" "_law_p_plus" (defArgs sLPPlus) (defBody sLPPlus) (defScope sLPPlus) .none kVf33 dcf33 pmf33 anf33 cdf33 ctf33), slf33⟩)
    (c33 : PySem.W.codeIn K cdf33 "_law_p_plus" = true)
    (k33 : PySem.W.keepIn K (.ref f33) = true)
    (a34 : PySem.W.nsIn K mainGlobals "_law_p_scaled" = some (some (.ref f34)))
    (l34 : K.lookup f34 = some ⟨ocf34, odf34, .func (PySem.W.fnOf "_law_p_scaled" "_law_p_scaled" (defArgs sLPScaled) (defBody sLPScaled) (defScope sLPScaled) .none kVf34 dcf34 pmf34 anf34 cdf34 ctf34), slf34⟩)
    (c34 : PySem.W.codeIn K cdf34 "_law_p_scaled" = true)
    (k34 : PySem.W.keepIn K (.ref f34) = true)
    (a35 : PySem.W.nsIn K mainGlobals "_law_p_times" = some (some (.ref f35)))
    (l35 : K.lookup f35 = some ⟨ocf35, odf35, .func (PySem.W.fnOf "_law_p_times" "_law_p_times" (defArgs sLPTimes) (defBody sLPTimes) (defScope sLPTimes) .none kVf35 dcf35 pmf35 anf35 cdf35 ctf35), slf35⟩)
    (c35 : PySem.W.codeIn K cdf35 "_law_p_times" = true)
    (k35 : PySem.W.keepIn K (.ref f35) = true)
    (a36 : PySem.W.nsIn K mainGlobals "_law_made_poly" = some (some (.ref f36)))
    (l36 : K.lookup f36 = some ⟨ocf36, odf36, .func (PySem.W.fnOf "_law_made_poly" "_law_made_poly" (defArgs sMade) (defBody sMade) (defScope sMade) .none kVf36 dcf36 pmf36 anf36 cdf36 ctf36), slf36⟩)
    (c36 : PySem.W.codeIn K cdf36 "_law_made_poly" = true)
    (k36 : PySem.W.keepIn K (.ref f36) = true)
    (a37 : PySem.W.nsIn K mainGlobals "_law_drawn" = some (some (.ref f37)))
    (l37 : K.lookup f37 = some ⟨ocf37, odf37, .func (PySem.W.fnOf "_law_drawn" "_law_drawn" (defArgs sDrawn) (defBody sDrawn) (defScope sDrawn) .none kVf37 dcf37 pmf37 anf37 cdf37 ctf37), slf37⟩)
    (c37 : PySem.W.codeIn K cdf37 "_law_drawn" = true)
    (k37 : PySem.W.keepIn K (.ref f37) = true)
    (a38 : PySem.W.nsIn K mainGlobals "_law_signed" = some (some (.ref f38)))
    (l38 : K.lookup f38 = some ⟨ocf38, odf38, .func (PySem.W.fnOf "_law_signed" "_law_signed" (defArgs sSigned) (defBody sSigned) (defScope sSigned) .none kVf38 dcf38 pmf38 anf38 cdf38 ctf38), slf38⟩)
    (c38 : PySem.W.codeIn K cdf38 "_law_signed" = true)
    (k38 : PySem.W.keepIn K (.ref f38) = true)
    (a39 : PySem.W.nsIn K mainGlobals "_law_bad_interval" = some (some (.ref f39)))
    (l39 : K.lookup f39 = some ⟨ocf39, odf39, .func (PySem.W.fnOf "_law_bad_interval" "_law_bad_interval" (defArgs sBadI) (defBody sBadI) (defScope sBadI) .none kVf39 dcf39 pmf39 anf39 cdf39 ctf39), slf39⟩)
    (c39 : PySem.W.codeIn K cdf39 "_law_bad_interval" = true)
    (k39 : PySem.W.keepIn K (.ref f39) = true)
    (a40 : PySem.W.nsIn K mainGlobals "_law_why" = some (some (.ref f40)))
    (l40 : K.lookup f40 = some ⟨ocf40, odf40, .func (PySem.W.fnOf "_law_why" "_law_why" (defArgs sWhy) (defBody sWhy) (defScope sWhy) .none kVf40 dcf40 pmf40 anf40 cdf40 ctf40), slf40⟩)
    (c40 : PySem.W.codeIn K cdf40 "_law_why" = true)
    (k40 : PySem.W.keepIn K (.ref f40) = true)
    (a41 : PySem.W.nsIn K mainGlobals "_law_ways" = some (some (.ref f41)))
    (l41 : K.lookup f41 = some ⟨ocf41, odf41, .func (PySem.W.fnOf "_law_ways" "_law_ways" (defArgs sLWays) (defBody sLWays) (defScope sLWays) .none kVf41 dcf41 pmf41 anf41 cdf41 ctf41), slf41⟩)
    (c41 : PySem.W.codeIn K cdf41 "_law_ways" = true)
    (k41 : PySem.W.keepIn K (.ref f41) = true)
    (a42 : PySem.W.nsIn K mainGlobals "_law_from_corners" = some (some (.ref f42)))
    (l42 : K.lookup f42 = some ⟨ocf42, odf42, .func (PySem.W.fnOf "_law_from_corners" "_law_from_corners" (defArgs sFC) (defBody sFC) (defScope sFC) .none kVf42 dcf42 pmf42 anf42 cdf42 ctf42), slf42⟩)
    (c42 : PySem.W.codeIn K cdf42 "_law_from_corners" = true)
    (k42 : PySem.W.keepIn K (.ref f42) = true)
    (a43 : PySem.W.nsIn K mainGlobals "law" = some (some (.ref f43)))
    (l43 : K.lookup f43 = some ⟨ocf43, odf43, .func (PySem.W.fnOf "law" "law" (defArgs sLaw) (defBody sLaw) (defScope sLaw) .none kVf43 dcf43 pmf43 anf43 (.ref cL) ctf43), slf43⟩)
    (c43 : PySem.W.codeIn K (.ref cL) "law" = true)
    (k43 : PySem.W.keepIn K (.ref f43) = true)
    (tl : K.lookup cL = some ⟨eL, dL, .fields vL, sL⟩)
    (tv : vL[11]? = some (.ref Pt))
    (tn : K.lookup Pt = none)
    (tr : ((recsOf q).any fun e => e.name == Str.ofString "law") = true)
    (aggcd : PySem.W.nsIn K mainGlobals "gcd" = some (some (.builtin "math.gcd")))
    (aglcm : PySem.W.nsIn K mainGlobals "lcm" = some (some (.builtin "math.lcm")))
    (agcomb : PySem.W.nsIn K mainGlobals "comb" = some (some (.builtin "math.comb")))
    (acMOST_DEGREE : PySem.W.nsIn K mainGlobals "MOST_DEGREE" = some (some (.int 60 tkMOST_DEGREE)))
    (m0 : PySem.W.nsIn K mainGlobals "BadInterval" = some (some (.ref C0)))
    (ei0 : PySem.W.findIn K (.ref C0) "__init__" = some (some (.ref i0)))
    (ti0 : PySem.W.typeIn K (.ref i0) = some (.type "function"))
    (li0 : K.lookup i0 = some ⟨oci0, odi0, .func (PySem.W.fnOf "__init__" "BadInterval.__init__" (defArgs (inClass (topS 6) 0)) (defBody (inClass (topS 6) 0)) (defScope (inClass (topS 6) 0)) .none kVi0 dci0 pmi0 ani0 cdi0 cti0), sli0⟩)
    (ci0 : PySem.W.codeIn K cdi0 "BadInterval.__init__" = true)
    (ki0 : PySem.W.keepIn K (.ref i0) = true)
    (lc0 : K.lookup C0 = some (excClassObj nm0 qn0 C0 N0 bs0 bm0 true sn0 sub0 ab0 col0 dd0 ka0 kb0 kc0 kd0 ke0 "ValueError.__new__"))
    (lb0 : PySem.HandSPX.refsVE bm0 = true)
    (big0 : (oexB K C0 && decide (PySem.W.findIn K (.ref C0) "low" = some none) && decide (PySem.W.findIn K (.ref C0) "high" = some none)) = true)
    (m1 : PySem.W.nsIn K mainGlobals "BadNumber" = some (some (.ref C1)))
    (ei1 : PySem.W.findIn K (.ref C1) "__init__" = some (some (.ref i1)))
    (ti1 : PySem.W.typeIn K (.ref i1) = some (.type "function"))
    (li1 : K.lookup i1 = some ⟨oci1, odi1, .func (PySem.W.fnOf "__init__" "BadNumber.__init__" (defArgs (inClass (topS 4) 0)) (defBody (inClass (topS 4) 0)) (defScope (inClass (topS 4) 0)) .none kVi1 dci1 pmi1 ani1 cdi1 cti1), sli1⟩)
    (ci1 : PySem.W.codeIn K cdi1 "BadNumber.__init__" = true)
    (ki1 : PySem.W.keepIn K (.ref i1) = true)
    (lc1 : K.lookup C1 = some (excClassObj nm1 qn1 C1 N1 bs1 bm1 true sn1 sub1 ab1 col1 dd1 ka1 kb1 kc1 kd1 ke1 "ValueError.__new__"))
    (lb1 : PySem.HandSPX.refsVE bm1 = true)
    (big1 : (oexB K C1 && decide (PySem.W.findIn K (.ref C1) "what" = some none) && decide (PySem.W.findIn K (.ref C1) "number" = some none)) = true)
    (m2 : PySem.W.nsIn K mainGlobals "BadRow" = some (some (.ref C2)))
    (ei2 : PySem.W.findIn K (.ref C2) "__init__" = some (some (.ref i2)))
    (ti2 : PySem.W.typeIn K (.ref i2) = some (.type "function"))
    (li2 : K.lookup i2 = some ⟨oci2, odi2, .func (PySem.W.fnOf "__init__" "BadRow.__init__" (defArgs (inClass (topS 5) 0)) (defBody (inClass (topS 5) 0)) (defScope (inClass (topS 5) 0)) .none kVi2 dci2 pmi2 ani2 cdi2 cti2), sli2⟩)
    (ci2 : PySem.W.codeIn K cdi2 "BadRow.__init__" = true)
    (ki2 : PySem.W.keepIn K (.ref i2) = true)
    (lc2 : K.lookup C2 = some (excClassObj nm2 qn2 C2 N2 bs2 bm2 true sn2 sub2 ab2 col2 dd2 ka2 kb2 kc2 kd2 ke2 "ValueError.__new__"))
    (lb2 : PySem.HandSPX.refsVE bm2 = true)
    (big2 : (oexB K C2 && decide (PySem.W.findIn K (.ref C2) "row" = some none)) = true)
    (mcg : PySem.W.nsIn K mainGlobals "Poly" = some (some (.ref Cg)))
    (eg0 : PySem.W.findIn K (.ref Cg) "__init__" = some (some (.ref g0)))
    (tg0 : PySem.W.typeIn K (.ref g0) = some (.type "function"))
    (lg0 : K.lookup g0 = some ⟨ocg0, odg0, .func (PySem.W.fnOf "__init__" "Poly.__init__" (defArgs (inClass (topS 25) 0)) (defBody (inClass (topS 25) 0)) (defScope (inClass (topS 25) 0)) .none kVg0 dcg0 pmg0 ang0 cdg0 ctg0), slg0⟩)
    (cg0 : PySem.W.codeIn K cdg0 "Poly.__init__" = true)
    (kg0 : PySem.W.keepIn K (.ref g0) = true)
    (eg1 : PySem.W.findIn K (.ref Cg) "__eq__" = some (some (.ref g1)))
    (tg1 : PySem.W.typeIn K (.ref g1) = some (.type "function"))
    (lg1 : K.lookup g1 = some ⟨ocg1, odg1, .func (PySem.W.fnOf "__eq__" "Poly.__eq__" (defArgs (inClass (topS 25) 1)) (defBody (inClass (topS 25) 1)) (defScope (inClass (topS 25) 1)) .none kVg1 dcg1 pmg1 ang1 cdg1 ctg1), slg1⟩)
    (cg1 : PySem.W.codeIn K cdg1 "Poly.__eq__" = true)
    (kg1 : PySem.W.keepIn K (.ref g1) = true)
    (eg2 : PySem.W.findIn K (.ref Cg) "degree" = some (some (.ref g2)))
    (tg2 : PySem.W.typeIn K (.ref g2) = some (.type "function"))
    (lg2 : K.lookup g2 = some ⟨ocg2, odg2, .func (PySem.W.fnOf "degree" "Poly.degree" (defArgs (inClass (topS 25) 9)) (defBody (inClass (topS 25) 9)) (defScope (inClass (topS 25) 9)) .none kVg2 dcg2 pmg2 ang2 cdg2 ctg2), slg2⟩)
    (cg2 : PySem.W.codeIn K cdg2 "Poly.degree" = true)
    (kg2 : PySem.W.keepIn K (.ref g2) = true)
    (tT : K.lookup dT = some ⟨eT, fT, .seq #[Value.none] nT, sT⟩)
    (zint : PySem.W.nsIn K mainGlobals "int" = some none)
    (zlist : PySem.W.nsIn K mainGlobals "list" = some none)
    (zlen : PySem.W.nsIn K mainGlobals "len" = some none)
    (zrange : PySem.W.nsIn K mainGlobals "range" = some none)
    (zstr : PySem.W.nsIn K mainGlobals "str" = some none)
    (zrepr : PySem.W.nsIn K mainGlobals "repr" = some none)
    (zisinstance : PySem.W.nsIn K mainGlobals "isinstance" = some none)
    (zbool : PySem.W.nsIn K mainGlobals "bool" = some none)
    (ztuple : PySem.W.nsIn K mainGlobals "tuple" = some none)
    (zabs : PySem.W.nsIn K mainGlobals "abs" = some none)
    (zall : PySem.W.nsIn K mainGlobals "all" = some none)
    (zmax : PySem.W.nsIn K mainGlobals "max" = some none)
    (zzip : PySem.W.nsIn K mainGlobals "zip" = some none)
    (bx0 : xfB K C0 = true)
    (bx1 : xfB K C1 = true)
    (x00 : PySem.W.exmOne K (.ref C0) (.ref C0) = some true)
    (x10 : PySem.W.exmOne K (.ref C1) (.ref C0) = some false)
    (x11 : PySem.W.exmOne K (.ref C1) (.ref C1) = some true)
    (bigP : polyB K Cg = true) :
    LawG l w K CX0 12 63 "_law_script" mg fa h := by
  have e := hfa.symm.trans (PySem.W.mg_of X G a43)
  cases e
  have mgo : ∀ {x : Str} {a : Value}, PySem.W.nsIn K mainGlobals x = some (some a) → mg x = some a := fun z => PySem.W.mg_of X G z
  have mgn : ∀ {x : Str}, PySem.W.nsIn K mainGlobals x = some none → mg x = none := fun z => PySem.W.mg_none_of X G z
  have tb := TB "law" _ cL Pt _ _ _ _ _ _ tr (mgo a43) l43 rfl rfl tl tv
  have F0 := fun_mk (st := sPen) l0 c0 k0
  have F1 := fun_mk (st := sDraw) l1 c1 k1
  have F2 := fun_mk (st := sPick) l2 c2 k2
  have F3 := fun_mk (st := sIsWhole) l3 c3 k3
  have F4 := fun_mk (st := sIsRatio) l4 c4 k4
  have F5 := fun_mk (st := sIsRow) l5 c5 k5
  have F6 := fun_mk (st := sLowest) l6 c6 k6
  have F7 := fun_mk (st := sParts) l7 c7 k7
  have F8 := fun_mk (st := sTold) l8 c8 k8
  have F9 := fun_mk (st := sLower) l9 c9 k9
  have F10 := fun_mk (st := sWithin) l10 c10 k10
  have F11 := fun_mk (st := sNeedI) l11 c11 k11
  have F12 := fun_mk (st := sOver2) l12 c12 k12
  have F13 := fun_mk (st := sStretch) l13 c13 k13
  have F14 := fun_mk (st := sScaled) l14 c14 k14
  have F15 := fun_mk (st := sMovedR) l15 c15 k15
  have F16 := fun_mk (st := sCorner) l16 c16 k16
  have F17 : FunD K "corners" "corners" (defArgs sCorners) (defBody sCorners) (defScope sCorners) [V.non] [] f17 _ := ⟨⟨_, _, .ref dT, _, _, _, _, _, _, _, rfl, l17, c17, .inr ⟨by simp, dT, _, [Value.none], nT, rfl, tT, rfl, .cons rfl .nil⟩, .inl rfl⟩, k17⟩
  have F18 := fun_mk (st := sRatios) l18 c18 k18
  have F19 := fun_mk (st := sLWhole) l19 c19 k19
  have F20 := fun_mk (st := sLGcd) l20 c20 k20
  have F21 := fun_mk (st := sLQ) l21 c21 k21
  have F22 := fun_mk (st := sLPlus) l22 c22 k22
  have F23 := fun_mk (st := sLMinus) l23 c23 k23
  have F24 := fun_mk (st := sLTimes) l24 c24 k24
  have F25 := fun_mk (st := sLShare) l25 c25 k25
  have F26 := fun_mk (st := sLLess) l26 c26 k26
  have F27 := fun_mk (st := sLIsRatio) l27 c27 k27
  have F28 := fun_mk (st := sPassed) l28 c28 k28
  have F29 := fun_mk (st := sLRatio) l29 c29 k29
  have F30 := fun_mk (st := sIv) l30 c30 k30
  have F31 := fun_mk (st := sLMid) l31 c31 k31
  have F32 := fun_mk (st := sLPoly) l32 c32 k32
  have F33 := fun_mk (st := sLPPlus) l33 c33 k33
  have F34 := fun_mk (st := sLPScaled) l34 c34 k34
  have F35 := fun_mk (st := sLPTimes) l35 c35 k35
  have F36 := fun_mk (st := sMade) l36 c36 k36
  have F37 := fun_mk (st := sDrawn) l37 c37 k37
  have F38 := fun_mk (st := sSigned) l38 c38 k38
  have F39 := fun_mk (st := sBadI) l39 c39 k39
  have F40 := fun_mk (st := sWhy) l40 c40 k40
  have F41 := fun_mk (st := sLWays) l41 c41 k41
  have F42 := fun_mk (st := sFC) l42 c42 k42
  have F43 := fun_mk (st := sLaw) l43 c43 k43
  have b0 := F0.binds (ps := ["_law_script"]) fun _ _ _ _ _ _ us hl => match us, hl with | [_], _ => rfl
  have b1 := F1.binds (ps := ["_law_pen_here", "_law_many"]) fun _ _ _ _ _ _ us hl => match us, hl with | [_, _], _ => rfl
  have b2 := F2.binds (ps := ["_law_pen_here", "_law_some"]) fun _ _ _ _ _ _ us hl => match us, hl with | [_, _], _ => rfl
  have b3 := F3.binds (ps := ["value"]) fun _ _ _ _ _ _ us hl => match us, hl with | [_], _ => rfl
  have b4 := F4.binds (ps := ["value"]) fun _ _ _ _ _ _ us hl => match us, hl with | [_], _ => rfl
  have b5 := F5.binds (ps := ["value"]) fun _ _ _ _ _ _ us hl => match us, hl with | [_], _ => rfl
  have b6 := F6.binds (ps := ["top", "bottom"]) fun _ _ _ _ _ _ us hl => match us, hl with | [_, _], _ => rfl
  have b7 := F7.binds (ps := ["value", "what"]) fun _ _ _ _ _ _ us hl => match us, hl with | [_, _], _ => rfl
  have b8 := F8.binds (ps := ["value", "what"]) fun _ _ _ _ _ _ us hl => match us, hl with | [_, _], _ => rfl
  have b9 := F9.binds (ps := ["one", "other"]) fun _ _ _ _ _ _ us hl => match us, hl with | [_, _], _ => rfl
  have b10 := F10.binds (ps := ["value", "least", "most"]) fun _ _ _ _ _ _ us hl => match us, hl with | [_, _, _], _ => rfl
  have b11 := F11.binds (ps := ["low", "high"]) fun _ _ _ _ _ _ us hl => match us, hl with | [_, _], _ => rfl
  have b12 := F12.binds (ps := ["numbers"]) fun _ _ _ _ _ _ us hl => match us, hl with | [_], _ => rfl
  have b13 := F13.binds (ps := ["row", "low", "high"]) fun _ _ _ _ _ _ us hl => match us, hl with | [_, _, _], _ => rfl
  have b14 := F14.binds (ps := ["row", "factor"]) fun _ _ _ _ _ _ us hl => match us, hl with | [_, _], _ => rfl
  have b15 := F15.binds (ps := ["row", "start"]) fun _ _ _ _ _ _ us hl => match us, hl with | [_, _], _ => rfl
  have b16 := F16.binds (ps := ["row", "degree"]) fun _ _ _ _ _ _ us hl => match us, hl with | [_, _], _ => rfl
  have b17 := corners_b4 F17
  have b18 := F18.binds (ps := ["row", "bottom"]) fun _ _ _ _ _ _ us hl => match us, hl with | [_, _], _ => rfl
  have b19 := F19.binds (ps := ["_law_thing"]) fun _ _ _ _ _ _ us hl => match us, hl with | [_], _ => rfl
  have b20 := F20.binds (ps := ["_law_one", "_law_two"]) fun _ _ _ _ _ _ us hl => match us, hl with | [_, _], _ => rfl
  have b21 := F21.binds (ps := ["_law_top", "_law_bottom"]) fun _ _ _ _ _ _ us hl => match us, hl with | [_, _], _ => rfl
  have b22 := F22.binds (ps := ["_law_one", "_law_two"]) fun _ _ _ _ _ _ us hl => match us, hl with | [_, _], _ => rfl
  have b23 := F23.binds (ps := ["_law_one", "_law_two"]) fun _ _ _ _ _ _ us hl => match us, hl with | [_, _], _ => rfl
  have b24 := F24.binds (ps := ["_law_one", "_law_two"]) fun _ _ _ _ _ _ us hl => match us, hl with | [_, _], _ => rfl
  have b25 := F25.binds (ps := ["_law_one", "_law_two"]) fun _ _ _ _ _ _ us hl => match us, hl with | [_, _], _ => rfl
  have b26 := F26.binds (ps := ["_law_one", "_law_two"]) fun _ _ _ _ _ _ us hl => match us, hl with | [_, _], _ => rfl
  have b27 := F27.binds (ps := ["_law_thing"]) fun _ _ _ _ _ _ us hl => match us, hl with | [_], _ => rfl
  have b28 := F28.binds (ps := ["_law_pen_here", "_law_ratio_here"]) fun _ _ _ _ _ _ us hl => match us, hl with | [_, _], _ => rfl
  have b29 := F29.binds (ps := ["_law_pen_here", "_law_most"]) fun _ _ _ _ _ _ us hl => match us, hl with | [_, _], _ => rfl
  have b30 := F30.binds (ps := ["_law_pen_here", "_law_most"]) fun _ _ _ _ _ _ us hl => match us, hl with | [_, _], _ => rfl
  have b31 := F31.binds (ps := ["_law_one", "_law_two"]) fun _ _ _ _ _ _ us hl => match us, hl with | [_, _], _ => rfl
  have b32 := F32.binds (ps := ["_law_numbers"]) fun _ _ _ _ _ _ us hl => match us, hl with | [_], _ => rfl
  have b33 := F33.binds (ps := ["_law_one", "_law_two"]) fun _ _ _ _ _ _ us hl => match us, hl with | [_, _], _ => rfl
  have b34 := F34.binds (ps := ["_law_one", "_law_by"]) fun _ _ _ _ _ _ us hl => match us, hl with | [_, _], _ => rfl
  have b35 := F35.binds (ps := ["_law_one", "_law_two"]) fun _ _ _ _ _ _ us hl => match us, hl with | [_, _], _ => rfl
  have b36 := F36.binds (ps := ["_law_pen_here", "_law_one"]) fun _ _ _ _ _ _ us hl => match us, hl with | [_, _], _ => rfl
  have b37 := F37.binds (ps := ["_law_pen_here", "_law_degree", "_law_most"]) fun _ _ _ _ _ _ us hl => match us, hl with | [_, _, _], _ => rfl
  have b38 := F38.binds (ps := ["_law_pen_here", "_law_low", "_law_high"]) fun _ _ _ _ _ _ us hl => match us, hl with | [_, _, _], _ => rfl
  have b39 := F39.binds (ps := ["_law_pen_here"]) fun _ _ _ _ _ _ us hl => match us, hl with | [_], _ => rfl
  have b40 := F40.binds (ps := ["_law_call"]) fun _ _ _ _ _ _ us hl => match us, hl with | [_], _ => rfl
  have b41 := F41.binds (ps := ["_law_n"]) fun _ _ _ _ _ _ us hl => match us, hl with | [_], _ => rfl
  have b42 := F42.binds (ps := ["_law_row", "_law_low", "_law_high"]) fun _ _ _ _ _ _ us hl => match us, hl with | [_, _, _], _ => rfl
  have FI0 := fun_mk (st := inClass (topS 6) 0) li0 ci0 ki0
  have bI0 := FI0.binds (ps := ["self", "low", "high"]) fun _ _ _ _ _ _ us hl => match us, hl with | [_, _, _], _ => rfl
  have oo0 : OexC K C0 := oexB_ok ((Bool.and_eq_true_iff.mp ((Bool.and_eq_true_iff.mp (big0)).1)).1) ⟨nm0, qn0, N0, bs0, bm0, sn0, sub0, ab0, col0, dd0, ka0, kb0, kc0, kd0, ke0, lc0, lb0⟩
  have no0_0 := (of_decide_eq_true (Bool.and_eq_true_iff.mp ((Bool.and_eq_true_iff.mp (big0)).1)).2 : PySem.W.findIn K (.ref C0) "low" = some none)
  have no0_1 := (of_decide_eq_true (Bool.and_eq_true_iff.mp (big0)).2 : PySem.W.findIn K (.ref C0) "high" = some none)
  have FI1 := fun_mk (st := inClass (topS 4) 0) li1 ci1 ki1
  have bI1 := FI1.binds (ps := ["self", "what", "number"]) fun _ _ _ _ _ _ us hl => match us, hl with | [_, _, _], _ => rfl
  have oo1 : OexC K C1 := oexB_ok ((Bool.and_eq_true_iff.mp ((Bool.and_eq_true_iff.mp (big1)).1)).1) ⟨nm1, qn1, N1, bs1, bm1, sn1, sub1, ab1, col1, dd1, ka1, kb1, kc1, kd1, ke1, lc1, lb1⟩
  have no1_0 := (of_decide_eq_true (Bool.and_eq_true_iff.mp ((Bool.and_eq_true_iff.mp (big1)).1)).2 : PySem.W.findIn K (.ref C1) "what" = some none)
  have no1_1 := (of_decide_eq_true (Bool.and_eq_true_iff.mp (big1)).2 : PySem.W.findIn K (.ref C1) "number" = some none)
  have FI2 := fun_mk (st := inClass (topS 5) 0) li2 ci2 ki2
  have bI2 := FI2.binds (ps := ["self", "row"]) fun _ _ _ _ _ _ us hl => match us, hl with | [_, _], _ => rfl
  have oo2 : OexC K C2 := oexB_ok ((Bool.and_eq_true_iff.mp (big2)).1) ⟨nm2, qn2, N2, bs2, bm2, sn2, sub2, ab2, col2, dd2, ka2, kb2, kc2, kd2, ke2, lc2, lb2⟩
  have no2_0 := (of_decide_eq_true (Bool.and_eq_true_iff.mp (big2)).2 : PySem.W.findIn K (.ref C2) "row" = some none)
  obtain ⟨PC, PMk, PKp⟩ := polyC (mg := mg) (mgo mcg) bigP
  have Fg0 := fun_mk (st := inClass (topS 25) 0) lg0 cg0 kg0
  have bg0 := Fg0.binds (ps := ["self", "numbers"]) fun _ _ _ _ _ _ us hl => match us, hl with | [_, _], _ => rfl
  have Fg1 := fun_mk (st := inClass (topS 25) 1) lg1 cg1 kg1
  have bg1 := Fg1.binds (ps := ["self", "other"]) fun _ _ _ _ _ _ us hl => match us, hl with | [_, _], _ => rfl
  have Fg2 := fun_mk (st := inClass (topS 25) 9) lg2 cg2 kg2
  have bg2 := Fg2.binds (ps := ["self"]) fun _ _ _ _ _ _ us hl => match us, hl with | [_], _ => rfl
  have B : Bi mg := { int := mgn zint, list := mgn zlist, len := mgn zlen, range := mgn zrange }
  have T : Bk mg := { toBi := B, isinstance := mgn zisinstance, bool := mgn zbool, tuple := mgn ztuple, abs := mgn zabs, str := mgn zstr, gcd := mgo aggcd }
  have bl : ∀ (s : Shared) (u : Value), BindsTo s (PySem.W.fnOf "law" "law" (defArgs sLaw) (defBody sLaw) (defScope sLaw) .none kVf43 dcf43 pmf43 anf43 (.ref cL) ctf43) ⟨[u], []⟩ [("_law_script", u)] := fun s u => .of_eq rfl
  refine ⟨_, [(cL, Pt)], spLaw K Pt, (fun p hp => by rw [List.mem_singleton.mp hp]; exact tb.2), (fun p hp => by rw [List.mem_singleton.mp hp]; exact tn), (fun p hp => by rw [List.mem_singleton.mp hp]; exact tb.1), (fun s u => bl s u), (fun H a ns hl _ hT hS => ⟨a, ns, rfl, hS, hl, hT _ (List.mem_singleton.mpr rfl), fun _ => rfl⟩), fun b _ _ mm1 hTB => ?_⟩
  have hTb : LamX.TabB b mg cL Pt := hTB _ (List.mem_singleton.mpr rfl)
  let NBadInterval : Ex l.prog w K mg b "BadInterval" C0 ["low", "high"] := ⟨oo0, i0, _, mgo m0, ei0, ti0, bI0, iniBadInterval FI0 oo0 no0_0 no0_1⟩
  let NBadNumber : Ex l.prog w K mg b "BadNumber" C1 ["what", "number"] := ⟨oo1, i1, _, mgo m1, ei1, ti1, bI1, iniBadNumber FI1 oo1 no1_0 no1_1⟩
  let NBadRow : Ex l.prog w K mg b "BadRow" C2 ["row"] := ⟨oo2, i2, _, mgo m2, ei2, ti2, bI2, iniBadRow FI2 oo2 no2_0⟩
  let G_law_draw : Df l.prog w K mg b "_law_draw" 1 ["_law_pen_here", "_law_many"] spDraw := ⟨f1, _, mgo a1, k1, b1, ok_draw F1 B⟩
  let G_law_pick : Df l.prog w K mg b "_law_pick" 2 ["_law_pen_here", "_law_some"] spPick := ⟨f2, _, mgo a2, k2, b2, ok_pick F2 B G_law_draw⟩
  let G_law_pen : Df l.prog w K mg b "_law_pen" 1 ["_law_script"] (spPen K) := ⟨f0, _, mgo a0, k0, b0, ok_pen F0 B⟩
  let Gis_whole : Df l.prog w K mg b "is_whole" 1 ["value"] (spWhole K) := ⟨f3, _, mgo a3, k3, b3, ok_is_whole F3 T⟩
  let Gis_ratio : Df l.prog w K mg b "is_ratio" 2 ["value"] (spIsRatio K) := ⟨f4, _, mgo a4, k4, b4, ok_is_ratio F4 T Gis_whole⟩
  let Gis_ratio_row : Df l.prog w K mg b "is_ratio_row" 3 ["value"] (spIsRow K) := ⟨f5, _, mgo a5, k5, b5, ok_is_row F5 T (mgn zall) Gis_ratio⟩
  let Glowest : Df l.prog w K mg b "lowest" 1 ["top", "bottom"] spLow := ⟨f6, _, mgo a6, k6, b6, ok_lowest F6 T⟩
  let Gparts_of : Dx l.prog w K mg b "parts_of" 3 ["value", "what"] (spParts K C1) := ⟨f7, _, mgo a7, k7, b7, ok_parts F7 T Gis_ratio NBadNumber⟩
  let Gtold : Dx l.prog w K mg b "told" 4 ["value", "what"] (spTold K C1) := ⟨f8, _, mgo a8, k8, b8, ok_told F8 Gparts_of Glowest⟩
  let Glower : Dx l.prog w K mg b "lower" 4 ["one", "other"] (spTwo K C1 okLower) := ⟨f9, _, mgo a9, k9, b9, ok_lower F9 Gparts_of Glowest NBadNumber⟩
  let PM : PoM l.prog w K mg b Cg C2 := ⟨PC, g0, _, ⟨PMk, eg0, fn_of_ty tg0, PKp⟩, bg0, ok_poly_init Fg0 T PC NBadRow Gis_ratio_row Gtold, g1, _, eg1, fn_of_ty tg1, bg1, ok_poly_eq Fg1 T mm1 PC⟩
  let M_degree : Me l.prog w K mg b Cg "degree" 1 ["self"] (spPolyD K Cg) := ⟨g2, _, ⟨eg2, fn_of_ty tg2, kg2⟩, bg2, ok_poly_degree Fg2 T PC⟩
  let Gis_whole_within : Df l.prog w K mg b "is_whole_within" 2 ["value", "least", "most"] (spWithin K) := ⟨f10, _, mgo a10, k10, b10, ok_within F10 T Gis_whole⟩
  let Gneed_interval : Dx l.prog w K mg b "need_interval" 5 ["low", "high"] (spNeedI K C0) := ⟨f11, _, mgo a11, k11, b11, ok_needi F11 T NBadInterval Gis_ratio Glower⟩
  let Gover_one_bottom : Df l.prog w K mg b "over_one_bottom" 1 ["numbers"] (spOver2 K) := ⟨f12, _, mgo a12, k12, b12, ok_over2 F12 (mgo aglcm)⟩
  let Gscaled_row : Df l.prog w K mg b "scaled_row" 1 ["row", "factor"] spScaled := ⟨f14, _, mgo a14, k14, b14, ok_scaled F14 T⟩
  let Gmoved_row : Df l.prog w K mg b "moved_row" 1 ["row", "start"] spMovedR := ⟨f15, _, mgo a15, k15, b15, ok_movedr F15 T⟩
  let Gstretched_row : Dx l.prog w K mg b "stretched_row" 4 ["row", "low", "high"] (spStretch K) := ⟨f13, _, mgo a13, k13, b13, ok_stretch F13 T (mgo aglcm) Gparts_of Gscaled_row Gmoved_row⟩
  let Gcorner_row : Df l.prog w K mg b "corner_row" 1 ["row", "degree"] spCorner := ⟨f16, _, mgo a16, k16, b16, ok_corner F16 T (mgn zzip) (mgo aglcm) (mgo agcomb)⟩
  let Gratios_over : Df l.prog w K mg b "ratios_over" 2 ["row", "bottom"] spRatios := ⟨f18, _, mgo a18, k18, b18, ok_ratios F18 T Glowest⟩
  let Gcorners : Dx l.prog w K mg b "corners" 6 ["poly", "low", "high", "degree"] (spCorners K Cg C1 C0) := ⟨f17, _, mgo a17, k17, b17, ok_corners F17 T (mgn zmax) (mgo acMOST_DEGREE) PC M_degree NBadNumber Gneed_interval Gis_whole_within Gover_one_bottom Gstretched_row Gcorner_row Gratios_over⟩
  let G_law_is_whole : Df l.prog w K mg b "_law_is_whole" 1 ["_law_thing"] (spWhole K) := ⟨f19, _, mgo a19, k19, b19, ok_lwhole F19 T⟩
  let G_law_gcd : Df l.prog w K mg b "_law_gcd" 1 ["_law_one", "_law_two"] spGcd := ⟨f20, _, mgo a20, k20, b20, ok_lgcd F20 T⟩
  let G_law_q : Df l.prog w K mg b "_law_q" 2 ["_law_top", "_law_bottom"] spQ := ⟨f21, _, mgo a21, k21, b21, ok_lq F21 G_law_gcd⟩
  let G_law_plus : Df l.prog w K mg b "_law_plus" 3 ["_law_one", "_law_two"] (spL2 rAdd) := ⟨f22, _, mgo a22, k22, b22, ok_lplus F22 G_law_q⟩
  let G_law_minus : Df l.prog w K mg b "_law_minus" 3 ["_law_one", "_law_two"] (spL2 rSub) := ⟨f23, _, mgo a23, k23, b23, ok_lminus F23 G_law_q⟩
  let G_law_times : Df l.prog w K mg b "_law_times" 3 ["_law_one", "_law_two"] (spL2 rMul) := ⟨f24, _, mgo a24, k24, b24, ok_ltimes F24 G_law_q⟩
  let G_law_share : Df l.prog w K mg b "_law_share" 3 ["_law_one", "_law_two"] spLSh := ⟨f25, _, mgo a25, k25, b25, ok_lshare F25 G_law_q⟩
  let G_law_less : Df l.prog w K mg b "_law_less" 1 ["_law_one", "_law_two"] spLess := ⟨f26, _, mgo a26, k26, b26, ok_lless F26⟩
  let G_law_is_ratio : Df l.prog w K mg b "_law_is_ratio" 2 ["_law_thing"] spIsRt := ⟨f27, _, mgo a27, k27, b27, ok_lisratio F27 T G_law_is_whole G_law_gcd⟩
  let G_law_passed : Df l.prog w K mg b "_law_passed" 3 ["_law_pen_here", "_law_ratio_here"] (spPassed K) := ⟨f28, _, mgo a28, k28, b28, ok_passed F28 G_law_draw G_law_pick⟩
  let G_law_ratio : Df l.prog w K mg b "_law_ratio" 3 ["_law_pen_here", "_law_most"] spRatio := ⟨f29, _, mgo a29, k29, b29, ok_lratio F29 G_law_draw G_law_pick G_law_q⟩
  let G_law_interval : Df l.prog w K mg b "_law_interval" 4 ["_law_pen_here", "_law_most"] spIv := ⟨f30, _, mgo a30, k30, b30, ok_iv F30 mm1 G_law_ratio G_law_draw G_law_plus G_law_less⟩
  let G_law_middle : Df l.prog w K mg b "_law_middle" 4 ["_law_one", "_law_two"] spMid := ⟨f31, _, mgo a31, k31, b31, ok_lmid F31 G_law_times G_law_plus⟩
  let G_law_poly : Df l.prog w K mg b "_law_poly" 1 ["_law_numbers"] (spLPoly K) := ⟨f32, _, mgo a32, k32, b32, ok_lpoly F32 T mm1⟩
  let G_law_p_plus : Df l.prog w K mg b "_law_p_plus" 4 ["_law_one", "_law_two"] spLPP := ⟨f33, _, mgo a33, k33, b33, ok_lpplus F33 T (mgn zmax) (mgn zzip) G_law_poly G_law_plus⟩
  let G_law_p_scaled : Df l.prog w K mg b "_law_p_scaled" 4 ["_law_one", "_law_by"] spLPS := ⟨f34, _, mgo a34, k34, b34, ok_lpscaled F34 G_law_poly G_law_times⟩
  let G_law_p_times : Df l.prog w K mg b "_law_p_times" 4 ["_law_one", "_law_two"] spLPT := ⟨f35, _, mgo a35, k35, b35, ok_lptimes F35 T (mgn zmax) G_law_poly G_law_plus G_law_times⟩
  let G_law_made_poly : Df l.prog w K mg b "_law_made_poly" 7 ["_law_pen_here", "_law_one"] (spMade K Cg) := ⟨f36, _, mgo a36, k36, b36, ok_made F36 T PM G_law_draw G_law_pick G_law_passed⟩
  let G_law_ways : Df l.prog w K mg b "_law_ways" 1 ["_law_n"] spWays := ⟨f41, _, mgo a41, k41, b41, ok_lways F41 T (mgn zzip)⟩
  let G_law_from_corners : Df l.prog w K mg b "_law_from_corners" 5 ["_law_row", "_law_low", "_law_high"] spFC := ⟨f42, _, mgo a42, k42, b42, ok_fc F42 T G_law_minus G_law_share G_law_times G_law_poly G_law_ways G_law_p_times G_law_p_plus G_law_p_scaled⟩
  let G_law_drawn : Df l.prog w K mg b "_law_drawn" 4 ["_law_pen_here", "_law_degree", "_law_most"] spDrawn := ⟨f37, _, mgo a37, k37, b37, ok_drawn F37 T G_law_draw G_law_ratio G_law_poly⟩
  let G_law_signed : Df l.prog w K mg b "_law_signed" 5 ["_law_pen_here", "_law_low", "_law_high"] spSigned := ⟨f38, _, mgo a38, k38, b38, ok_signed F38 T G_law_pick G_law_draw G_law_middle G_law_ratio G_law_minus G_law_p_times G_law_p_plus⟩
  let G_law_bad_interval : Df l.prog w K mg b "_law_bad_interval" 3 ["_law_pen_here"] (spBadI K) := ⟨f39, _, mgo a39, k39, b39, ok_badi F39 T G_law_pick⟩
  obtain ⟨dsC, v3C, b3C⟩ := corners_b3 F17
  obtain ⟨gC, bkC⟩ := corners_bk F17
  have W : W9 K mg ([C0, C1, C2].getD · 0) := ⟨mgo m0, mgo m1, mgn zrepr, xfB_ok bx0, xfB_ok bx1, x00, x10, x11, no0_0, no0_1, no1_0, no1_1⟩
  let Y : Yy K mg := ⟨f40, kVf40, dcf40, pmf40, anf40, cdf40, ctf40, ocf40, odf40, slf40, mgo a40, k40, l40, c40, b40⟩
  exact ok_law (C := ([C0, C1, C2].getD · 0)) F43 T W mm1 (mgn zmax) cL Pt rfl hTb Y PM G_law_pen G_law_draw G_law_pick G_law_interval G_law_drawn G_law_signed G_law_from_corners G_law_bad_interval G_law_passed G_law_is_ratio G_law_made_poly Gcorners v3C b3C bkC
end Vf

open PySem PySem.W PyProof.Rows
set_option maxRecDepth 100000 in
set_option maxHeartbeats 0 in
theorem PySem.Challenge.cw_nearcurves_k09_whole_corners_holds : PySem.Challenge.rw_nearcurves_k09_whole_corners.Holds := by
  w_on; o_law; k_head; (case hw => w_witness2)
  k_fill
  refine Vf.walkT (l := PySem.Challenge.rw_nearcurves_k09_whole_corners) (n := 63) (k := 12) (C := fun _ => L2.CX0) (x := "_law_script") rfl (by decide) rfl ⟨rfl, by decide, by decide⟩ (by decide +kernel) (fun w h Y => PySem.W.km_in_of Y) ?F (fun _ _ _ _ _ z => z)
  case F =>
    intro w mg fa h Y X G hmg TB
    refine' Vf.all_mk X G hmg TB ?a0 ?l0 ?c0 ?k0 ?a1 ?l1 ?c1 ?k1 ?a2 ?l2 ?c2 ?k2 ?a3 ?l3 ?c3 ?k3 ?a4 ?l4 ?c4 ?k4 ?a5 ?l5 ?c5 ?k5 ?a6 ?l6 ?c6 ?k6 ?a7 ?l7 ?c7 ?k7 ?a8 ?l8 ?c8 ?k8 ?a9 ?l9 ?c9 ?k9 ?a10 ?l10 ?c10 ?k10 ?a11 ?l11 ?c11 ?k11 ?a12 ?l12 ?c12 ?k12 ?a13 ?l13 ?c13 ?k13 ?a14 ?l14 ?c14 ?k14 ?a15 ?l15 ?c15 ?k15 ?a16 ?l16 ?c16 ?k16 ?a17 ?l17 ?c17 ?k17 ?a18 ?l18 ?c18 ?k18 ?a19 ?l19 ?c19 ?k19 ?a20 ?l20 ?c20 ?k20 ?a21 ?l21 ?c21 ?k21 ?a22 ?l22 ?c22 ?k22 ?a23 ?l23 ?c23 ?k23 ?a24 ?l24 ?c24 ?k24 ?a25 ?l25 ?c25 ?k25 ?a26 ?l26 ?c26 ?k26 ?a27 ?l27 ?c27 ?k27 ?a28 ?l28 ?c28 ?k28 ?a29 ?l29 ?c29 ?k29 ?a30 ?l30 ?c30 ?k30 ?a31 ?l31 ?c31 ?k31 ?a32 ?l32 ?c32 ?k32 ?a33 ?l33 ?c33 ?k33 ?a34 ?l34 ?c34 ?k34 ?a35 ?l35 ?c35 ?k35 ?a36 ?l36 ?c36 ?k36 ?a37 ?l37 ?c37 ?k37 ?a38 ?l38 ?c38 ?k38 ?a39 ?l39 ?c39 ?k39 ?a40 ?l40 ?c40 ?k40 ?a41 ?l41 ?c41 ?k41 ?a42 ?l42 ?c42 ?k42 ?a43 ?l43 ?c43 ?k43 ?tl ?tv ?tn ?tr ?aggcd ?aglcm ?agcomb ?acMOST_DEGREE ?m0 ?ei0 ?ti0 ?li0 ?ci0 ?ki0 ?lc0 ?lb0 ?big0 ?m1 ?ei1 ?ti1 ?li1 ?ci1 ?ki1 ?lc1 ?lb1 ?big1 ?m2 ?ei2 ?ti2 ?li2 ?ci2 ?ki2 ?lc2 ?lb2 ?big2 ?mcg ?eg0 ?tg0 ?lg0 ?cg0 ?kg0 ?eg1 ?tg1 ?lg1 ?cg1 ?kg1 ?eg2 ?tg2 ?lg2 ?cg2 ?kg2 ?tT ?zint ?zlist ?zlen ?zrange ?zstr ?zrepr ?zisinstance ?zbool ?ztuple ?zabs ?zall ?zmax ?zzip ?bx0 ?bx1 ?x00 ?x10 ?x11 ?bigP
    (case a0 => k_is)
    (case l0 => k_is)
    (case c0 => k_is)
    (case k0 => k_is)
    (case a1 => k_is)
    (case l1 => k_is)
    (case c1 => k_is)
    (case k1 => k_is)
    (case a2 => k_is)
    (case l2 => k_is)
    (case c2 => k_is)
    (case k2 => k_is)
    (case a3 => k_is)
    (case l3 => k_is)
    (case c3 => k_is)
    (case k3 => k_is)
    (case a4 => k_is)
    (case l4 => k_is)
    (case c4 => k_is)
    (case k4 => k_is)
    (case a5 => k_is)
    (case l5 => k_is)
    (case c5 => k_is)
    (case k5 => k_is)
    (case a6 => k_is)
    (case l6 => k_is)
    (case c6 => k_is)
    (case k6 => k_is)
    (case a7 => k_is)
    (case l7 => k_is)
    (case c7 => k_is)
    (case k7 => k_is)
    (case a8 => k_is)
    (case l8 => k_is)
    (case c8 => k_is)
    (case k8 => k_is)
    (case a9 => k_is)
    (case l9 => k_is)
    (case c9 => k_is)
    (case k9 => k_is)
    (case a10 => k_is)
    (case l10 => k_is)
    (case c10 => k_is)
    (case k10 => k_is)
    (case a11 => k_is)
    (case l11 => k_is)
    (case c11 => k_is)
    (case k11 => k_is)
    (case a12 => k_is)
    (case l12 => k_is)
    (case c12 => k_is)
    (case k12 => k_is)
    (case a13 => k_is)
    (case l13 => k_is)
    (case c13 => k_is)
    (case k13 => k_is)
    (case a14 => k_is)
    (case l14 => k_is)
    (case c14 => k_is)
    (case k14 => k_is)
    (case a15 => k_is)
    (case l15 => k_is)
    (case c15 => k_is)
    (case k15 => k_is)
    (case a16 => k_is)
    (case l16 => k_is)
    (case c16 => k_is)
    (case k16 => k_is)
    (case a17 => k_is)
    (case l17 => k_is)
    (case c17 => k_is)
    (case k17 => k_is)
    (case a18 => k_is)
    (case l18 => k_is)
    (case c18 => k_is)
    (case k18 => k_is)
    (case a19 => k_is)
    (case l19 => k_is)
    (case c19 => k_is)
    (case k19 => k_is)
    (case a20 => k_is)
    (case l20 => k_is)
    (case c20 => k_is)
    (case k20 => k_is)
    (case a21 => k_is)
    (case l21 => k_is)
    (case c21 => k_is)
    (case k21 => k_is)
    (case a22 => k_is)
    (case l22 => k_is)
    (case c22 => k_is)
    (case k22 => k_is)
    (case a23 => k_is)
    (case l23 => k_is)
    (case c23 => k_is)
    (case k23 => k_is)
    (case a24 => k_is)
    (case l24 => k_is)
    (case c24 => k_is)
    (case k24 => k_is)
    (case a25 => k_is)
    (case l25 => k_is)
    (case c25 => k_is)
    (case k25 => k_is)
    (case a26 => k_is)
    (case l26 => k_is)
    (case c26 => k_is)
    (case k26 => k_is)
    (case a27 => k_is)
    (case l27 => k_is)
    (case c27 => k_is)
    (case k27 => k_is)
    (case a28 => k_is)
    (case l28 => k_is)
    (case c28 => k_is)
    (case k28 => k_is)
    (case a29 => k_is)
    (case l29 => k_is)
    (case c29 => k_is)
    (case k29 => k_is)
    (case a30 => k_is)
    (case l30 => k_is)
    (case c30 => k_is)
    (case k30 => k_is)
    (case a31 => k_is)
    (case l31 => k_is)
    (case c31 => k_is)
    (case k31 => k_is)
    (case a32 => k_is)
    (case l32 => k_is)
    (case c32 => k_is)
    (case k32 => k_is)
    (case a33 => k_is)
    (case l33 => k_is)
    (case c33 => k_is)
    (case k33 => k_is)
    (case a34 => k_is)
    (case l34 => k_is)
    (case c34 => k_is)
    (case k34 => k_is)
    (case a35 => k_is)
    (case l35 => k_is)
    (case c35 => k_is)
    (case k35 => k_is)
    (case a36 => k_is)
    (case l36 => k_is)
    (case c36 => k_is)
    (case k36 => k_is)
    (case a37 => k_is)
    (case l37 => k_is)
    (case c37 => k_is)
    (case k37 => k_is)
    (case a38 => k_is)
    (case l38 => k_is)
    (case c38 => k_is)
    (case k38 => k_is)
    (case a39 => k_is)
    (case l39 => k_is)
    (case c39 => k_is)
    (case k39 => k_is)
    (case a40 => k_is)
    (case l40 => k_is)
    (case c40 => k_is)
    (case k40 => k_is)
    (case a41 => k_is)
    (case l41 => k_is)
    (case c41 => k_is)
    (case k41 => k_is)
    (case a42 => k_is)
    (case l42 => k_is)
    (case c42 => k_is)
    (case k42 => k_is)
    (case a43 => k_is)
    (case l43 => k_is)
    (case c43 => k_is)
    (case k43 => k_is)
    (case tl => k_is)
    (case tv => first | rfl | k_is)
    (case tn => first | kernel_rfl | k_is)
    (case tr => decide +kernel)
    (case aggcd => k_is)
    (case aglcm => k_is)
    (case agcomb => k_is)
    (case acMOST_DEGREE => k_is)
    (case m0 => k_is)
    (case ei0 => k_is)
    (case ti0 => k_is)
    (case li0 => k_is)
    (case ci0 => k_is)
    (case ki0 => k_is)
    (case lc0 => k_is)
    (case lb0 => decide +kernel)
    (case big0 => kernel_rfl)
    (case m1 => k_is)
    (case ei1 => k_is)
    (case ti1 => k_is)
    (case li1 => k_is)
    (case ci1 => k_is)
    (case ki1 => k_is)
    (case lc1 => k_is)
    (case lb1 => decide +kernel)
    (case big1 => kernel_rfl)
    (case m2 => k_is)
    (case ei2 => k_is)
    (case ti2 => k_is)
    (case li2 => k_is)
    (case ci2 => k_is)
    (case ki2 => k_is)
    (case lc2 => k_is)
    (case lb2 => decide +kernel)
    (case big2 => kernel_rfl)
    (case mcg => k_is)
    (case eg0 => k_is)
    (case tg0 => k_is)
    (case lg0 => k_is)
    (case cg0 => k_is)
    (case kg0 => k_is)
    (case eg1 => k_is)
    (case tg1 => k_is)
    (case lg1 => k_is)
    (case cg1 => k_is)
    (case kg1 => k_is)
    (case eg2 => k_is)
    (case tg2 => k_is)
    (case lg2 => k_is)
    (case cg2 => k_is)
    (case kg2 => k_is)
    (case tT => k_is)
    (case zint => k_is)
    (case zlist => k_is)
    (case zlen => k_is)
    (case zrange => k_is)
    (case zstr => k_is)
    (case zrepr => k_is)
    (case zisinstance => k_is)
    (case zbool => k_is)
    (case ztuple => k_is)
    (case zabs => k_is)
    (case zall => k_is)
    (case zmax => k_is)
    (case zzip => k_is)
    (case bx0 => kernel_rfl)
    (case bx1 => kernel_rfl)
    (case x00 => kernel_rfl)
    (case x10 => kernel_rfl)
    (case x11 => kernel_rfl)
    (case bigP => kernel_rfl)
