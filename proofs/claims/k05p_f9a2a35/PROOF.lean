import PyProof.Rows.All
import Wide.All
import OpenK.AllK
import Wide.FinOn
import Lean
import PyProof.EqAt
import PyProof.EqKinds
import PyProof.TupleCall
import PyProof.NeKinds
import PyProof.StrLawsTight
import PyProof.Conv_int
import PyProof.StrLawsRepr
import PyProof.ReprStr
import KE.KSortTup
import KE.KRevSl
import PyProof.DictIter
import PyProof.DictValues
import PyProof.DictTruth
import PySem.Challenge.RW_haltline_k05_whole_no_earlier_table
set_option Elab.async false
set_option linter.all false
set_option maxRecDepth 100000
set_option bootstrap.genMatcherCode false
set_option genSizeOf false
set_option compiler.extract_closed false
section
variable{P:Prop}{T0 T1 T2 T3 T4 T5 T6 T7 T8:Type}{A0 A1 A2 A3 A4 A5 A6 A7 A8 A9:Prop}{B0 B1 B2 B3 B4 B5 B6 B7 B8 B9:T0→Prop}{C0 C1 C2 C3 C4 C5 C6 C7 C8 C9:T0→T1→Prop}{D0 D1 D2 D3 D4 D5 D6 D7 D8 D9:T0→T1→T2→Prop}{E0 E1 E2 E3 E4 E5 E6 E7 E8 E9:T0→T1→T2→T3→Prop}{F0 F1 F2 F3 F4 F5 F6 F7 F8 F9:T0→T1→T2→T3→T4→Prop}{G0 G1 G2 G3 G4 G5 G6 G7 G8 G9:T0→T1→T2→T3→T4→T5→Prop}{H0 H1 H2 H3 H4 H5 H6 H7 H8 H9:T0→T1→T2→T3→T4→T5→T6→Prop}{I0 I1 I2 I3 I4 I5 I6 I7 I8 I9:T0→T1→T2→T3→T4→T5→T6→T7→Prop}{J0 J1 J2 J3 J4 J5 J6 J7 J8 J9:T0→T1→T2→T3→T4→T5→T6→T7→T8→Prop}
theorem bA (H:∃a b,C0 a b∧C1 a b∧C2 a b)(K:∀a b,C0 a b→C1 a b→C2 a b→P):P:=by obtain ⟨a,b,c,d,e⟩:=H;exact K a b c d e
theorem cy (H:∃a,B0 a∧B1 a∧B2 a)(K:∀a,B0 a→B1 a→B2 a→P):P:=by obtain ⟨a,b,c,d⟩:=H;exact K a b c d
theorem dJ (a b)(c:C0 a b)(d:C1 a b)(e:C2 a b):∃a b,C0 a b∧C1 a b∧C2 a b:=⟨a,b,c,d,e⟩
theorem iI (a)(b:B0 a)(c:B1 a)(d:B2 a):∃a,B0 a∧B1 a∧B2 a:=⟨a,b,c,d⟩
theorem jA (H:∃a b c,D0 a b c∧D1 a b c∧D2 a b c∧D3 a b c)(K:∀a b c,D0 a b c→D1 a b c→D2 a b c→D3 a b c→P):P:=by obtain ⟨a,b,c,d,e,f,g⟩:=H;exact K a b c d e f g
theorem jT (a b c)(d:D0 a b c)(e:D1 a b c)(f:D2 a b c)(g:D3 a b c):∃a b c,D0 a b c∧D1 a b c∧D2 a b c∧D3 a b c:=⟨a,b,c,d,e,f,g⟩
theorem mf (H:∃a b,C0 a b∧C1 a b)(K:∀a b,C0 a b→C1 a b→P):P:=by obtain ⟨a,b,c,d⟩:=H;exact K a b c d
theorem oC (H:∃a b,C0 a b∧C1 a b∧C2 a b∧C3 a b)(K:∀a b,C0 a b→C1 a b→C2 a b→C3 a b→P):P:=by obtain ⟨a,b,c,d,e,f⟩:=H;exact K a b c d e f
theorem oY (H:∃a b c d,E0 a b c d∧E1 a b c d∧E2 a b c d∧E3 a b c d)(K:∀a b c d,E0 a b c d→E1 a b c d→E2 a b c d→E3 a b c d→P):P:=by obtain ⟨a,b,c,d,e,f,g,h⟩:=H;exact K a b c d e f g h
theorem oJ (a b c)(d:D0 a b c)(e:D1 a b c)(f:D2 a b c)(g:D3 a b c)(h:D4 a b c):∃a b c,D0 a b c∧D1 a b c∧D2 a b c∧D3 a b c∧D4 a b c:=⟨a,b,c,d,e,f,g,h⟩
theorem iN (H:∃a b c,D0 a b c∧D1 a b c∧D2 a b c∧D3 a b c∧D4 a b c)(K:∀a b c,D0 a b c→D1 a b c→D2 a b c→D3 a b c→D4 a b c→P):P:=by obtain ⟨a,b,c,d,e,f,g,h⟩:=H;exact K a b c d e f g h
theorem lP (H:A0∧A1∧A2∧A3)(K:A0→A1→A2→A3→P):P:=by obtain ⟨a,b,c,d⟩:=H;exact K a b c d
theorem lv (a b)(c:C0 a b)(d:C1 a b)(e:C2 a b)(f:C3 a b):∃a b,C0 a b∧C1 a b∧C2 a b∧C3 a b:=⟨a,b,c,d,e,f⟩
theorem mi (a b)(c:C0 a b)(d:C1 a b):∃a b,C0 a b∧C1 a b:=⟨a,b,c,d⟩
theorem mj (a:A0)(b:A1)(c:A2)(d:A3):A0∧A1∧A2∧A3:=⟨a,b,c,d⟩
theorem nD (c:A0)(a b)(d:C0 a b)(e:C1 a b):A0∧∃a b,C0 a b∧C1 a b:=⟨c,a,b,d,e⟩
theorem oW (H:A0∧A1∧A2∧A3∧A4∧A5)(K:A0→A1→A2→A3→A4→A5→P):P:=by obtain ⟨a,b,c,d,e,f⟩:=H;exact K a b c d e f
theorem oX (H:∃a b c,D0 a b c∧D1 a b c∧D2 a b c)(K:∀a b c,D0 a b c→D1 a b c→D2 a b c→P):P:=by obtain ⟨a,b,c,d,e,f⟩:=H;exact K a b c d e f
theorem oG (b:A0)(a)(c:B0 a)(d:B1 a):A0∧∃a,B0 a∧B1 a:=⟨b,a,c,d⟩
theorem oH (a b c d)(e:E0 a b c d)(f:E1 a b c d)(g:E2 a b c d)(h:E3 a b c d):∃a b c d,E0 a b c d∧E1 a b c d∧E2 a b c d∧E3 a b c d:=⟨a,b,c,d,e,f,g,h⟩
theorem rH (H:A0∧A1∧A2∧A3∧A4)(K:A0→A1→A2→A3→A4→P):P:=by obtain ⟨a,b,c,d,e⟩:=H;exact K a b c d e
theorem rJ (H:A0∧∃a b,C0 a b∧C1 a b∧C2 a b)(K:A0→∀a b,C0 a b→C1 a b→C2 a b→P):P:=by obtain ⟨c,a,b,d,e,f⟩:=H;exact K c a b d e f
theorem t8 (H:A0∧∃a,B0 a∧B1 a)(K:A0→∀a,B0 a→B1 a→P):P:=by obtain ⟨b,a,c,d⟩:=H;exact K b a c d
theorem t9 (H:∃a,B0 a∧B1 a∧B2 a∧B3 a∧B4 a)(K:∀a,B0 a→B1 a→B2 a→B3 a→B4 a→P):P:=by obtain ⟨a,b,c,d,e,f⟩:=H;exact K a b c d e f
theorem vc (H:A0∧A1∧∃a,B0 a∧∃b c d,E0 a b c d∧E1 a b c d)(K:A0→A1→∀a,B0 a→∀b c d,E0 a b c d→E1 a b c d→P):P:=by obtain ⟨e,f,a,g,b,c,d,h,i⟩:=H;exact K e f a g b c d h i
theorem uw (a:A0)(b:A1)(c:A2)(d:A3)(e:A4):A0∧A1∧A2∧A3∧A4:=⟨a,b,c,d,e⟩
theorem ux (a)(d:B0 a)(b c)(e:D0 a b c):∃a,B0 a∧∃b c,D0 a b c:=⟨a,d,b,c,e⟩
theorem xM (H:A0∧∃a b,C0 a b∧C1 a b)(K:A0→∀a b,C0 a b→C1 a b→P):P:=by obtain ⟨c,a,b,d,e⟩:=H;exact K c a b d e
theorem xN (H:∃a,B0 a∧B1 a∧∃b,C0 a b)(K:∀a,B0 a→B1 a→∀b,C0 a b→P):P:=by obtain ⟨a,c,d,b,e⟩:=H;exact K a c d b e
theorem xO (H:A0∧A1∧∃a,B0 a∧B1 a)(K:A0→A1→∀a,B0 a→B1 a→P):P:=by obtain ⟨b,c,a,d,e⟩:=H;exact K b c a d e
theorem xg (a b c)(d:D0 a b c)(e:D1 a b c):∃a b c,D0 a b c∧D1 a b c:=⟨a,b,c,d,e⟩
theorem xh (a b)(c:C0 a b)(d:C1 a b)(e:C2 a b)(f:C3 a b)(g:C4 a b):∃a b,C0 a b∧C1 a b∧C2 a b∧C3 a b∧C4 a b:=⟨a,b,c,d,e,f,g⟩
theorem zU (H:∃a b c,D0 a b c∧D1 a b c)(K:∀a b c,D0 a b c→D1 a b c→P):P:=by obtain ⟨a,b,c,d,e⟩:=H;exact K a b c d e
theorem Cf (H:∃a b c,D0 a b c)(K:∀a b c,D0 a b c→P):P:=by obtain ⟨a,b,c,d⟩:=H;exact K a b c d
theorem Cg (H:∃a b c d,E0 a b c d∧E1 a b c d∧E2 a b c d∧E3 a b c d∧E4 a b c d)(K:∀a b c d,E0 a b c d→E1 a b c d→E2 a b c d→E3 a b c d→E4 a b c d→P):P:=by obtain ⟨a,b,c,d,e,f,g,h,i⟩:=H;exact K a b c d e f g h i
theorem Ch (H:∃a b c d e f g h i,J0 a b c d e f g h i∧J1 a b c d e f g h i∧J2 a b c d e f g h i)(K:∀a b c d e f g h i,J0 a b c d e f g h i→J1 a b c d e f g h i→J2 a b c d e f g h i→P):P:=by obtain ⟨a,b,c,d,e,f,g,h,i,j,k,l⟩:=H;exact K a b c d e f g h i j k l
theorem Ci (H:∃a b c d,E0 a b c d∧E1 a b c d∧E2 a b c d∧E3 a b c d∧E4 a b c d∧E5 a b c d∧E6 a b c d∧E7 a b c d∧E8 a b c d∧E9 a b c d)(K:∀a b c d,E0 a b c d→E1 a b c d→E2 a b c d→E3 a b c d→E4 a b c d→E5 a b c d→E6 a b c d→E7 a b c d→E8 a b c d→E9 a b c d→P):P:=by obtain ⟨a,b,c,d,e,f,g,h,i,j,k,l,m,n⟩:=H;exact K a b c d e f g h i j k l m n
theorem Cj (H:∃a b c d,E0 a b c d)(K:∀a b c d,E0 a b c d→P):P:=by obtain ⟨a,b,c,d,e⟩:=H;exact K a b c d e
theorem Ck (H:∃a b c d e,F0 a b c d e)(K:∀a b c d e,F0 a b c d e→P):P:=by obtain ⟨a,b,c,d,e,f⟩:=H;exact K a b c d e f
theorem Cl (H:∃a b c d e f,G0 a b c d e f)(K:∀a b c d e f,G0 a b c d e f→P):P:=by obtain ⟨a,b,c,d,e,f,g⟩:=H;exact K a b c d e f g
theorem Ba (a)(b:B0 a)(c:B1 a)(d:B2 a)(e:B3 a)(f:B4 a):∃a,B0 a∧B1 a∧B2 a∧B3 a∧B4 a:=⟨a,b,c,d,e,f⟩
theorem Bb (a b c d)(e:E0 a b c d)(f:E1 a b c d)(g:E2 a b c d)(h:E3 a b c d)(i:E4 a b c d):∃a b c d,E0 a b c d∧E1 a b c d∧E2 a b c d∧E3 a b c d∧E4 a b c d:=⟨a,b,c,d,e,f,g,h,i⟩
theorem Bc (a b c d)(e:E0 a b c d)(f:E1 a b c d)(g:E2 a b c d)(h:E3 a b c d)(i:E4 a b c d)(j:E5 a b c d):∃a b c d,E0 a b c d∧E1 a b c d∧E2 a b c d∧E3 a b c d∧E4 a b c d∧E5 a b c d:=⟨a,b,c,d,e,f,g,h,i,j⟩
theorem Bd (a b c d e)(f:F0 a b c d e):∃a b c d e,F0 a b c d e:=⟨a,b,c,d,e,f⟩
theorem Be (a b c d e f)(g:G0 a b c d e f):∃a b c d e f,G0 a b c d e f:=⟨a,b,c,d,e,f,g⟩
theorem Ff (H:∃a b c d,E0 a b c d∧E1 a b c d)(K:∀a b c d,E0 a b c d→E1 a b c d→P):P:=by obtain ⟨a,b,c,d,e,f⟩:=H;exact K a b c d e f
theorem Fg (H:A0∧A1∧∃a,B0 a∧∃b c d,E0 a b c d∧E1 a b c d∧E2 a b c d∧E3 a b c d∧E4 a b c d)(K:A0→A1→∀a,B0 a→∀b c d,E0 a b c d→E1 a b c d→E2 a b c d→E3 a b c d→E4 a b c d→P):P:=by obtain ⟨e,f,a,g,b,c,d,h,i,j,k,l⟩:=H;exact K e f a g b c d h i j k l
theorem Fh (H:∃a b c d e,F0 a b c d e∧F1 a b c d e∧F2 a b c d e∧F3 a b c d e∧F4 a b c d e∧F5 a b c d e)(K:∀a b c d e,F0 a b c d e→F1 a b c d e→F2 a b c d e→F3 a b c d e→F4 a b c d e→F5 a b c d e→P):P:=by obtain ⟨a,b,c,d,e,f,g,h,i,j,k⟩:=H;exact K a b c d e f g h i j k
theorem Fi (H:∃a,B0 a∧B1 a∧B2 a∧B3 a∧B4 a∧B5 a)(K:∀a,B0 a→B1 a→B2 a→B3 a→B4 a→B5 a→P):P:=by obtain ⟨a,b,c,d,e,f,g⟩:=H;exact K a b c d e f g
theorem Fj (H:∃a b,C0 a b∧C1 a b∧C2 a b∧C3 a b∧C4 a b∧C5 a b)(K:∀a b,C0 a b→C1 a b→C2 a b→C3 a b→C4 a b→C5 a b→P):P:=by obtain ⟨a,b,c,d,e,f,g,h⟩:=H;exact K a b c d e f g h
theorem DP (c:A0)(a b)(d:C0 a b)(e:C1 a b)(f:C2 a b):A0∧∃a b,C0 a b∧C1 a b∧C2 a b:=⟨c,a,b,d,e,f⟩
theorem DR (a)(b:B0 a)(c:B1 a)(d:B2 a)(e:B3 a):∃a,B0 a∧B1 a∧B2 a∧B3 a:=⟨a,b,c,d,e⟩
theorem DT (a b c d e)(f:F0 a b c d e)(g:F1 a b c d e)(h:F2 a b c d e)(i:F3 a b c d e)(j:F4 a b c d e)(k:F5 a b c d e):∃a b c d e,F0 a b c d e∧F1 a b c d e∧F2 a b c d e∧F3 a b c d e∧F4 a b c d e∧F5 a b c d e:=⟨a,b,c,d,e,f,g,h,i,j,k⟩
theorem DU (a b c d)(e:E0 a b c d):∃a b c d,E0 a b c d:=⟨a,b,c,d,e⟩
theorem Ha (H:A0∧A1∧∃a,B0 a∧∃b c d,E0 a b c d∧E1 a b c d∧E2 a b c d)(K:A0→A1→∀a,B0 a→∀b c d,E0 a b c d→E1 a b c d→E2 a b c d→P):P:=by obtain ⟨e,f,a,g,b,c,d,h,i,j⟩:=H;exact K e f a g b c d h i j
theorem Hb (H:∃a b c d,E0 a b c d∧E1 a b c d∧E2 a b c d∧E3 a b c d∧E4 a b c d∧E5 a b c d)(K:∀a b c d,E0 a b c d→E1 a b c d→E2 a b c d→E3 a b c d→E4 a b c d→E5 a b c d→P):P:=by obtain ⟨a,b,c,d,e,f,g,h,i,j⟩:=H;exact K a b c d e f g h i j
theorem Hc (H:∃a b,C0 a b∧C1 a b∧C2 a b∧C3 a b∧C4 a b)(K:∀a b,C0 a b→C1 a b→C2 a b→C3 a b→C4 a b→P):P:=by obtain ⟨a,b,c,d,e,f,g⟩:=H;exact K a b c d e f g
theorem Hd (H:∃a b,C0 a b∧C1 a b∧C2 a b∧∃c d,E0 a b c d∧∃e f,G0 a b c d e f∧G1 a b c d e f∧G2 a b c d e f)(K:∀a b,C0 a b→C1 a b→C2 a b→∀c d,E0 a b c d→∀e f,G0 a b c d e f→G1 a b c d e f→G2 a b c d e f→P):P:=by obtain ⟨a,b,g,h,i,c,d,j,e,f,k,l,m⟩:=H;exact K a b g h i c d j e f k l m
theorem He (H:∃a b c,D0 a b c∧D1 a b c∧D2 a b c∧D3 a b c∧D4 a b c∧D5 a b c∧D6 a b c∧D7 a b c)(K:∀a b c,D0 a b c→D1 a b c→D2 a b c→D3 a b c→D4 a b c→D5 a b c→D6 a b c→D7 a b c→P):P:=by obtain ⟨a,b,c,d,e,f,g,h,i,j,k⟩:=H;exact K a b c d e f g h i j k
theorem Hf (H:∃a b c d e f,G0 a b c d e f∧G1 a b c d e f)(K:∀a b c d e f,G0 a b c d e f→G1 a b c d e f→P):P:=by obtain ⟨a,b,c,d,e,f,g,h⟩:=H;exact K a b c d e f g h
theorem FU (e:A0)(f:A1)(a)(g:B0 a)(b c d)(h:E0 a b c d)(i:E1 a b c d):A0∧A1∧∃a,B0 a∧∃b c d,E0 a b c d∧E1 a b c d:=⟨e,f,a,g,b,c,d,h,i⟩
theorem FV (a b c)(d:D0 a b c):∃a b c,D0 a b c:=⟨a,b,c,d⟩
theorem FW (a)(c:B0 a)(d:B1 a)(b)(e:C0 a b):∃a,B0 a∧B1 a∧∃b,C0 a b:=⟨a,c,d,b,e⟩
theorem FX (a:A0)(b:A1)(c:A2)(d:A3)(e:A4)(f:A5):A0∧A1∧A2∧A3∧A4∧A5:=⟨a,b,c,d,e,f⟩
theorem FY (b:A0)(c:A1)(d:A2)(e:A3)(a)(f:B0 a)(g:B1 a)(h:B2 a):A0∧A1∧A2∧A3∧∃a,B0 a∧B1 a∧B2 a:=⟨b,c,d,e,a,f,g,h⟩
theorem FZ (e:A0)(f:A1)(a b c d)(g:E0 a b c d)(h:E1 a b c d)(i:E2 a b c d)(j:E3 a b c d)(k:E4 a b c d):A0∧A1∧∃a b c d,E0 a b c d∧E1 a b c d∧E2 a b c d∧E3 a b c d∧E4 a b c d:=⟨e,f,a,b,c,d,g,h,i,j,k⟩
theorem F_ (a b)(c:C0 a b)(d:C1 a b)(e:C2 a b)(f:C3 a b)(g:C4 a b)(h:C5 a b):∃a b,C0 a b∧C1 a b∧C2 a b∧C3 a b∧C4 a b∧C5 a b:=⟨a,b,c,d,e,f,g,h⟩
theorem Ga (a b c)(d:D0 a b c)(e:D1 a b c)(f:D2 a b c)(g:D3 a b c)(h:D4 a b c)(i:D5 a b c):∃a b c,D0 a b c∧D1 a b c∧D2 a b c∧D3 a b c∧D4 a b c∧D5 a b c:=⟨a,b,c,d,e,f,g,h,i⟩
theorem Gb (e:A0)(f:A1)(a)(g:B0 a)(b c d)(h:E0 a b c d)(i:E1 a b c d)(j:E2 a b c d)(k:E3 a b c d)(l:E4 a b c d):A0∧A1∧∃a,B0 a∧∃b c d,E0 a b c d∧E1 a b c d∧E2 a b c d∧E3 a b c d∧E4 a b c d:=⟨e,f,a,g,b,c,d,h,i,j,k,l⟩
theorem Gc (a)(f:B0 a)(b c d e)(g:F0 a b c d e)(h:F1 a b c d e)(i:F2 a b c d e)(j:F3 a b c d e)(k:F4 a b c d e)(l:F5 a b c d e)(m:F6 a b c d e):∃a,B0 a∧∃b c d e,F0 a b c d e∧F1 a b c d e∧F2 a b c d e∧F3 a b c d e∧F4 a b c d e∧F5 a b c d e∧F6 a b c d e:=⟨a,f,b,c,d,e,g,h,i,j,k,l,m⟩
theorem Gd (a b)(e:C0 a b)(f:C1 a b)(g:C2 a b)(c d)(h:E0 a b c d)(i:E1 a b c d)(j:E2 a b c d):∃a b,C0 a b∧C1 a b∧C2 a b∧∃c d,E0 a b c d∧E1 a b c d∧E2 a b c d:=⟨a,b,e,f,g,c,d,h,i,j⟩
theorem Gf (a b)(e:C0 a b)(f:C1 a b)(c d)(g:E0 a b c d)(h:E1 a b c d)(i:E2 a b c d):∃a b,C0 a b∧C1 a b∧∃c d,E0 a b c d∧E1 a b c d∧E2 a b c d:=⟨a,b,e,f,c,d,g,h,i⟩
theorem Gg (a)(g:B0 a)(b c d e f)(h:G0 a b c d e f)(i:G1 a b c d e f)(j:G2 a b c d e f)(k:G3 a b c d e f):∃a,B0 a∧∃b c d e f,G0 a b c d e f∧G1 a b c d e f∧G2 a b c d e f∧G3 a b c d e f:=⟨a,g,b,c,d,e,f,h,i,j,k⟩
theorem Gh (d:A0)(a)(e:B0 a)(b)(f:C0 a b)(g:C1 a b)(c)(h:D0 a b c):A0∧∃a,B0 a∧∃b,C0 a b∧C1 a b∧∃c,D0 a b c:=⟨d,a,e,b,f,g,c,h⟩
theorem Gi (a)(b:B0 a)(c:B1 a)(d:B2 a)(e:B3 a)(f:B4 a)(g:B5 a):∃a,B0 a∧B1 a∧B2 a∧B3 a∧B4 a∧B5 a:=⟨a,b,c,d,e,f,g⟩
theorem Gj (a b)(d:C0 a b)(e:C1 a b)(f:C2 a b)(c)(g:D0 a b c):∃a b,C0 a b∧C1 a b∧C2 a b∧∃c,D0 a b c:=⟨a,b,d,e,f,c,g⟩
theorem Gk (a)(g:B0 a)(b c d e f)(h:G0 a b c d e f)(i:G1 a b c d e f):∃a,B0 a∧∃b c d e f,G0 a b c d e f∧G1 a b c d e f:=⟨a,g,b,c,d,e,f,h,i⟩
end
namespace L2
open PySem PySem.Spec PyProof.Rows
theorem d7 {α:Type}{l:List α}{i:Nat}{a:α}(h:l[i]?=some a):∃ h:i<l.length,l[i]=a:=List.getElem?_eq_some_iff.mp h
theorem cN {α:Type}{a b:α}{l:List α}(h:a∈l):a∈b::l:=.tail _ h
theorem cC {α:Type}{l:List α}{i:Nat}(h:i<l.length):l[i]?=some l[i]:=List.getElem?_eq_getElem h
noncomputable abbrev bH:=Sum Int Str
noncomputable def pF:bH→Value→Bool
 | .inl k,v=>Value.isInt k v
 | .inr x,v=>Value.isStrOf x v
noncomputable def HH (w:World):bH→Int
 | .inl k=>hashInt k
 | .inr x=>hashStr w x
theorem bL:∀ {k:bH} {v:Value},pF k v=true→(∃ i t,k=Sum.inl i∧v=Value.int i t)∨(∃ x t,k=Sum.inr x∧v=Value.str x t)
 | .inl i,v,h=>by
  obtain ⟨t,e⟩:=Value.isInt_shape (k:=i) (v:=v) h
  exact .inl (mi i t rfl e)
 | .inr x,v,h=>by
  obtain ⟨t,e⟩:=Value.isStrOf_shape (x:=x) (v:=v) h
  exact .inr (mi x t rfl e)
theorem xk (i:Int)(t:Tok):pF (.inl i) (.int i t)=true:=by simp [pF,Value.isInt]
theorem xl (x:Str)(t:Tok):pF (.inr x) (.str x t)=true:=by simp [pF,Value.isStrOf]
theorem DY (a b:Int):decide ((Sum.inl a:bH)=Sum.inl b)=(a == b):=by
 by_cases e:a=b
 ·subst e; simp
 ·have h:¬ (Sum.inl a:bH)=Sum.inl b:=fun q=>e (Sum.inl.inj q)
  rw [decide_eq_false h]
  exact (beq_eq_false_iff_ne.mpr e).symm
theorem Ea (a b:Str):decide ((Sum.inr a:bH)=Sum.inr b)=decide (a=b):=by
 by_cases e:a=b
 ·subst e; simp
 ·have h:¬ (Sum.inr a:bH)=Sum.inr b:=fun q=>e (Sum.inr.inj q)
  rw [decide_eq_false h,decide_eq_false e]
theorem DZ (a:Int)(b:Str):decide ((Sum.inl a:bH)=Sum.inr b)=false:=decide_eq_false (fun q=>nomatch q)
theorem D_ (a:Str)(b:Int):decide ((Sum.inr a:bH)=Sum.inl b)=false:=decide_eq_false (fun q=>nomatch q)
noncomputable def b7 (prog:Program)(w:World):PySem.KeyKind prog w bH where
 is:=pF
 hash:=HH w
 inj:=fun v a b ha hb=>by
  rcases bL ha with ⟨i,t,rfl,rfl⟩ | ⟨x,t,rfl,rfl⟩
  ·rcases bL hb with ⟨j,u,rfl,e⟩ | ⟨y,u,rfl,e⟩
   ·injection e with e1 _; rw [e1]
   ·exact nomatch e
  ·rcases bL hb with ⟨j,u,rfl,e⟩ | ⟨y,u,rfl,e⟩
   ·exact nomatch e
   ·injection e with e1 _; rw [e1]
 byValue:=fun k v h=>by
  rcases bL h with ⟨i,t,rfl,rfl⟩ | ⟨x,t,rfl,rfl⟩ <;> rfl
 pyHash:=fun hv h=>by
  rcases bL hv with ⟨i,t,rfl,rfl⟩ | ⟨x,t,rfl,rfl⟩
  ·exact wpAny_pyHash_int h
  ·exact wpAny_pyHash_str h
 eqBool:=fun hu hv h=>by
  rcases bL hu with ⟨i,t,rfl,rfl⟩ | ⟨x,t,rfl,rfl⟩
  ·rcases bL hv with ⟨j,u,rfl,rfl⟩ | ⟨y,u,rfl,rfl⟩
   ·rw [DY] at h; exact wpAny_eqBool_int h
   ·rw [DZ] at h; exact SeqAt.EqAt.int_str i t y u _ _ _ _ h
  ·rcases bL hv with ⟨j,u,rfl,rfl⟩ | ⟨y,u,rfl,rfl⟩
   ·rw [D_] at h; exact SeqAt.EqAt.str_int x t j u _ _ _ _ h
   ·rw [Ea] at h; exact wpAny_eqBool_str h
 «strs»:=fun k x t v h=>by
  rcases bL h with ⟨i,u,rfl,e⟩ | ⟨y,u,rfl,e⟩
  ·exact nomatch e
  ·injection e with e1 _
   subst e1
   cases v <;> rfl
theorem sY (prog:Program)(w:World)(i:Int)(t:Tok):(b7 prog w).is (.inl i) (.int i t)=true:=xk i t
theorem s0 (prog:Program)(w:World)(x:Str)(t:Tok):(b7 prog w).is (.inr x) (.str x t)=true:=xl x t
inductive V where
 | non | bl (b:Bool) | int (i:Int) | str (x:Str) | byt (b:Array UInt8) | flt (b:UInt64) | ref (a:Addr) | ty (n:String)
 deriving DecidableEq
noncomputable def RelV:V→Value→Prop
 | .non,u=>u=Value.none
 | .bl b,u=>u=Value.bool b
 | .int i,u=>∃ t,u=Value.int i t
 | .str x,u=>∃ t,u=Value.str x t
 | .byt b,u=>∃ t,u=Value.bytes b t
 | .flt b,u=>∃ t,u=Value.float b t
 | .ref a,u=>u=Value.ref a
 | .ty n,u=>u=Value.type n
noncomputable abbrev Vals:List V→List Value→Prop:=Paired RelV
theorem Vals.length {xs:List V}{us:List Value}(r:Vals xs us):xs.length=us.length:=Paired.length r
theorem Vals.get:∀ {xs:List V} {us:List Value} {i:Nat} {x:V},Vals xs us→xs[i]?=some x→∃ u,us[i]?=some u∧RelV x u
 | _,_,_,_,.nil,e=>by simp at e
 | _,_,0,_,.cons r _,e=>by simp at e; subst e; exact ⟨_,rfl,r⟩
 | _,_,i+1,x,.cons _ t,e=>by
  obtain ⟨u,h1,h2⟩:=Vals.get (i:=i) (x:=x) t (by simpa using e)
  exact ⟨u,by simpa using h1,h2⟩
theorem Vals.set {x:V}{u:Value}(r:RelV x u):∀ {xs:List V} {us:List Value} (i:Nat),Vals xs us→Vals (xs.set i x) (us.set i u)
 | _,_,_,.nil=> .nil
 | _,_,0,.cons _ t=> .cons r t
 | _,_,i+1,.cons q t=> .cons q (Vals.set r i t)
theorem Vals.append:∀ {xs ys:List V} {us ws:List Value},Vals xs us→Vals ys ws→Vals (xs ++ ys) (us ++ ws)
 | _,_,_,_,.nil,s=>s
 | _,_,_,_,.cons r t,s=> .cons r (Vals.append t s)
theorem Vals.take:∀ {xs:List V} {us:List Value} (n:Nat),Vals xs us→Vals (xs.take n) (us.take n)
 | _,_,0,_=> .nil
 | _,_,_+1,.nil=> .nil
 | _,_,n+1,.cons r t=> .cons r (Vals.take n t)
theorem Vals.drop:∀ {xs:List V} {us:List Value} (n:Nat),Vals xs us→Vals (xs.drop n) (us.drop n)
 | _,_,0,r=>r
 | _,_,_+1,.nil=> .nil
 | _,_,n+1,.cons _ t=>Vals.drop n t
noncomputable def RelO:Option V→Option Value→Prop
 | some v,some u=>RelV v u
 | none,none=>True
 | _,_=>False
noncomputable def KV {κ:Type}:List (κ×V)→List (κ×Value)→Prop:=Paired fun (p:κ×V) (q:κ×Value)=>p.1=q.1∧RelV p.2 q.2
noncomputable def kV:bH→V
 | .inl i=> .int i
 | .inr x=> .str x
inductive HO where
 /-- a list -/
 | lst (xs:List V)
 /-- a tuple (never changes) -/
 | tup (xs:List V)
 /-- a dict whose keys are ints and texts; one whose keys are tuples of ints and texts (the empty one is both) -/
 | dK (kvs:List (bH×V)) | dT (kvs:List (List bH×V))
 /-- a set of ints:its members,its size -/
 | set (S:Int→Bool) (n:Nat)
 /-- an instance of the class at C,its dict at dx,its attributes -/
 | ins (C dx:Addr) (fs:List (Str×V))
 /-- the dict of the instance at x -/
 | own (x:Addr)
 /-- the dict of an exception -/
 | xd (fs:List (Str×V))
 /-- a bound method,f of x -/
 | met (f x:Addr)
 /-- a range object lo,lo+1,.. below hi -/
 | rng (lo hi:Int)
 /-- a thing that is known to the object (the script; a dict while a loop walks it):read,never written while it is so -/
 | frz (o:Obj) (u:HO)
 /-- a code object's table -/
 | tbl (ps:Array Value)
 /-- any other thing,by what is true of its one object (a def of one's own:SetO a S n:=HO.ext fun h=> ..) -/
 | ext (φ:Heap→Prop)
noncomputable abbrev Hp:=Addr→Option HO
noncomputable def br (H:Hp)(a:Addr)(o:HO):Hp:=fun b=>if b=a then some o else H b
theorem aw {H:Hp}{a:Addr}{o:HO}:br H a o a=some o:=by unfold br; rw [if_pos rfl]
theorem al {H:Hp}{a b:Addr}{o:HO}(h:b≠a):br H a o b=H b:=by unfold br; rw [if_neg h]
theorem Gz {H:Hp}{a b:Addr}{o u:HO}(h:H a=some o)(h':H b=some u)(d:o≠u):a≠b:=by
 intro e; subst e; rw [h] at h'; exact d (Option.some.inj h')
theorem aF {H:Hp}{a b:Addr}{o:HO}(h:H a=some o)(h':H b=none):a≠b:=by
 intro e; subst e; rw [h] at h'; cases h'
section
variable(P:Program)(w:World)
noncomputable def ObjOk (H:Hp)(h:Heap)(a:Addr):HO→Prop
 | .lst xs=>xs.length≤sizeLine∧∃ (its:List Value) (n:Nat),Vals xs its∧h.get? a=some { cls:= .type "list",data:= .seq its.toArray n }
 | .tup xs=>xs.length≤sizeLine∧∃ its:List Value,Vals xs its∧IsTup h a its.toArray
 | .dK kvs=>kvs.length≤sizeLine∧(a == sysModules)=false∧∃ vs,KV kvs vs∧h.DictOf (b7 P w) a vs
 | .dT kvs=>kvs.length≤sizeLine∧(a == sysModules)=false∧∃ xs:List (List bH×Addr×Value),
   Paired (fun (p:List bH×V) (q:List bH×Addr×Value)=>p.1=q.1∧H q.2.1=some (.tup (p.1.map kV))∧RelV p.2 q.2.2) kvs xs∧
   ∃ o es ep,h.get? a=some o∧o.ExactDict∧o.data= .dict es ep∧es.toList=xs.map (entryOfKey (tupleKind (b7 P w)))∧(xs.map (·.1)).Nodup
 | .set S n=>h.SetOf (intKind P w) a S n
 | .ins C dx fs=>H dx=some (.own a)∧fs.length≤1000∧dx≠a∧h.get? a=some (W.instObj C dx)∧
   ∃ mA,h.Ns1 dx mA∧(∀ f,RelO (fs.lookup f) (mA f))∧PySem.Within mA (fs.map (·.1))
 | .own _=>∃ o,h.get? a=some o
 | .xd fs=>∃ mA,h.Ns1 a mA∧∀ f,RelO (fs.lookup f) (mA f)
 | .rng lo hi=>∃ t u v,h.get? a=some { cls:= .type "range",data:= .fields #[.int lo t,.int hi u,.int 1 v] }
 | .frz o u=>h.get? a=some o∧ObjOk H h a u
 | .tbl ps=>h.get? a=some { cls:= .none,data:= .fields ps }
 | .met f x=>h.get? a=some (W.methodObj (.ref f) (.ref x))
 | .ext φ=>φ h∧(∃ o,h.get? a=some o)∧∀ h1 h2:Heap,φ h1→(∀ o,h1.get? a=some o→h2.get? a=some o)→φ h2
noncomputable def HOk (H:Hp)(h:Heap):Prop:=∀ a o,H a=some o→ObjOk P w H h a o
end
section
variable{P:Program}{w:World}{H H':Hp}{h h':Heap}{a:Addr}{o:HO}
theorem ObjOk.lt (x:ObjOk P w H h a o):a < h.objs.size:=by
 cases o with
 | lst xs=>refine xM (x) fun _ _ _ _ e=> ?_; exact Heap.lt_size e
 | tup xs=>refine t8 (x) fun _ _ _ p=> ?_; exact p.lt
 | dK kvs=>refine vc (x) fun _ _ _ _ o _ _ e _=> ?_; exact Heap.lt_size e
 | dT kvs=>refine vc (x) fun _ _ _ _ o _ _ e _=> ?_; exact Heap.lt_size e
 | set S n=>refine Ff (x) fun o _ _ _ e _=> ?_; exact Heap.lt_size e
 | ins C dx fs=>refine rH (x) fun _ _ _ e _=> ?_; exact Heap.lt_size e
 | own y=>obtain ⟨_,e⟩:=x; exact Heap.lt_size e
 | xd fs=>obtain ⟨_,⟨_,_,_,e,_⟩,_⟩:=x; exact Heap.lt_size e
 | rng lo hi=>refine Cf (x) fun _ _ _ e=> ?_; exact Heap.lt_size e
 | frz ob u=>obtain ⟨e,_⟩:=x; exact Heap.lt_size e
 | tbl ps=>exact Heap.lt_size (show h.get? a=some _ from x)
 | met f y=>exact Heap.lt_size (show h.get? a=some _ from x)
 | ext φ=>obtain ⟨_,⟨_,e⟩,_⟩:=x; exact Heap.lt_size e
theorem Paired.mapP {α β:Type}{F G:α→β→Prop}:∀ {l₁:List α} {l₂:List β},Paired F l₁ l₂→(∀ a b,F a b→G a b)→Paired G l₁ l₂
 | _,_,.nil,_=> .nil
 | _,_,.cons r t,f=> .cons (f _ _ r) (Paired.mapP t f)
theorem ObjOk.stay (x:ObjOk P w H h a o)(k:∀ b u,(b=a∨H b=some (.own a))→h.get? b=some u→h'.get? b=some u)
  (ho:∀ b,H b=some (.own a)→H' b=some (.own a)) (ht:∀ b xs,H b=some (.tup xs)→H' b=some (.tup xs)):ObjOk P w H' h' a o:=by
 induction o with
 | lst xs=>refine xM (x) fun z its n r e=> ?_; exact (nD z its n r (k _ _ (.inl rfl) e))
 | tup xs=>obtain ⟨z,its,r,g,e,c⟩:=x; exact ⟨z,its,r,g,k _ _ (.inl rfl) e,c⟩
 | dK kvs=>refine vc (x) fun z y vs r g i j e c=> ?_; exact (FU z y vs r g i j (k _ _ (.inl rfl) e) c)
 | dT kvs=>
  refine vc (x) fun z y xs r g i j e c=> ?_
  exact (FU z y xs (Paired.mapP r fun p q z=>⟨z.1,ht _ _ z.2.1,z.2.2⟩) g i j (k _ _ (.inl rfl) e) c)
 | set S n=>refine Ff (x) fun g i j t e c=> ?_; exact ⟨g,i,j,t,k _ _ (.inl rfl) e,c⟩
 | ins C dx fs=>
  obtain ⟨d,z,ne,e,mA,⟨od,i,j,e2,c⟩,r⟩:=x
  exact ⟨ho _ d,z,ne,k _ _ (.inl rfl) e,mA,(xg od i j (k _ _ (.inr d) e2) c),r⟩
 | own y=>obtain ⟨g,e⟩:=x; exact ⟨g,k _ _ (.inl rfl) e⟩
 | xd fs=>obtain ⟨mA,⟨od,i,j,e,c⟩,r⟩:=x; exact ⟨mA,(xg od i j (k _ _ (.inl rfl) e) c),r⟩
 | rng lo hi=>refine Cf (x) fun t u v e=> ?_; exact (FV t u v (k _ _ (.inl rfl) e))
 | frz g u ih=>obtain ⟨e,q⟩:=x; exact ⟨k _ _ (.inl rfl) e,ih q⟩
 | tbl ps=>
  have e:h.get? a=some { cls:= .none,data:= .fields ps }:=x
  show h'.get? a=some { cls:= .none,data:= .fields ps }
  exact k a _ (.inl rfl) e
 | met f y=>
  have e:h.get? a=some (W.methodObj (.ref f) (.ref y)):=x
  show h'.get? a=some (W.methodObj (.ref f) (.ref y))
  exact k a _ (.inl rfl) e
 | ext φ=>obtain ⟨p,⟨o,e⟩,st⟩:=x; exact ⟨st _ _ p fun o q=>k _ _ (.inl rfl) q,⟨o,k _ _ (.inl rfl) e⟩,st⟩
theorem HOk.lt (x:HOk P w H h)(e:H a=some o):a < h.objs.size:=(x a o e).lt
theorem HOk.fresh (x:HOk P w H h)(e:h.objs.size≤a):H a=none:=by
 cases q:H a with
 | none=>rfl
 | some u=>exact absurd (Nat.lt_of_lt_of_le (x.lt q) e) (Nat.lt_irrefl _)
theorem HOk.kept (x:HOk P w H h)(k:∀ b u,h.get? b=some u→h'.get? b=some u):HOk P w H h':=fun a o e=>
 (x a o e).stay (fun b u _ q=>k b u q) (fun _ q=>q) fun _ _ q=>q
theorem HOk.laid (x:HOk P w H h)(k:∀ b u,h.get? b=some u→h'.get? b=some u)(hp:h.objs.size≤a)(new:ObjOk P w (br H a o) h' a o):HOk P w (br H a o) h':=fun b u e=>by
 have hn:=x.fresh hp
 by_cases hb:b=a
 ·subst hb; rw [aw] at e; cases e; exact new
 ·rw [al hb] at e
  exact (x b u e).stay (fun c v _ q=>k c v q) (fun c q=>by rw [al (aF q hn)]; exact q) fun c xs q=>by rw [al (aF q hn)]; exact q
end
noncomputable def Rd (H:Hp)(a:Addr)(u:HO):Prop:=H a=some u∨∃ o,H a=some (.frz o u)
theorem Rd.ok {P:Program}{w:World}{H:Hp}{h:Heap}{a:Addr}{u:HO}(r:Rd H a u)(x:HOk P w H h):ObjOk P w H h a u:=by
 rcases r with r | ⟨o,r⟩
 ·exact x a u r
 ·obtain ⟨_,q⟩:=x a _ r
  exact q
noncomputable def Fq:Option HO→Prop
 | some (.lst _)=>True
 | some (.dK _)=>True
 | some (.dT _)=>True
 | some (.set _ _)=>True
 | some (.ins _ _ _)=>True
 | some (.ext _)=>True
 | _=>False
section
variable{P:Program}{w:World}{H:Hp}{h h':Heap}{x e:Addr}{o':HO}
theorem HOk.write (ok:HOk P w H h)(mu:Fq (H x))(he:e=x∨H e=some (.own x))(k:∀ b u,b≠e→h.get? b=some u→h'.get? b=some u)(heo:∃ u,h'.get? e=some u)
  (new:ObjOk P w (br H x o') h' x o'):HOk P w (br H x o') h':=fun b u q=>by
 have nown:∀ c y,H c=some (.own y)→c≠x:=fun c y r z=>by subst z; rw [r] at mu; exact mu
 have ntup:∀ c xs,H c=some (.tup xs)→c≠x:=fun c xs r z=>by subst z; rw [r] at mu; exact mu
 by_cases hb:b=x
 ·subst hb; rw [aw] at q; cases q; exact new
 ·rw [al hb] at q
  by_cases d:b=e
  ·have q':H b=some (.own x):=by
    rcases he with z | z
    ·exact absurd (d.trans z) hb
    ·rw [d]; exact z
   rw [q] at q'; cases q'
   obtain ⟨v,hv⟩:=heo
   exact ⟨v,by rw [d]; exact hv⟩
  ·refine (ok b u q).stay (fun c v hc r=>k c v ?_ r) (fun c r=>by rw [al (nown c b r)]; exact r) fun c xs r=>by rw [al (ntup c xs r)]; exact r
   rcases hc with rfl | hc
   ·exact d
   ·rintro rfl
    rcases he with z | z
    ·exact nown c b hc z
    ·rw [hc] at z; cases z; exact hb rfl
end
structure Un (fs ex:List Addr)(H H':Hp)(h h':Heap):Prop where
 keep:∀ b o,h.get? b=some o→H b=none→b∉fs→b∉ex→h'.get? b=some o
 slot:∀ b o,h.get? b=some o→H b=none→b∈fs→b∉ex→∃ sl,h'.get? b=some { o with slots:=sl }
 free:∀ b o,h.get? b=some o→H b=none→b∉ex→H' b=none
 there:∀ b o,h.get? b=some o→b∉ex→∃ o',h'.get? b=some o'
 tups:∀ b xs,H b=some (.tup xs)→H' b=some (.tup xs)
 frzs:∀ b o u,H b=some (.frz o u)→H' b=some (.frz o u)
 tbls:∀ b ps,H b=some (.tbl ps)→∃ more,H' b=some (.tbl (ps ++ more))
section
variable{fs fs' ex ex':List Addr}{H H1 H2:Hp}{h h1 h2 h':Heap}{a x e:Addr}{o:HO}
theorem Un.any (u:Un fs ex H H1 h h1){b:Addr}{ob:Obj}(q:h.get? b=some ob)(n:H b=none)(hx:b∉ex):∃ sl,h1.get? b=some { ob with slots:=sl }:=by
 by_cases hb:b∈fs
 ·exact u.slot b ob q n hb hx
 ·exact ⟨ob.slots,u.keep b ob q n hb hx⟩
theorem Un.kept (k:∀ b u,h.get? b=some u→h'.get? b=some u):Un fs ex H H h h':=
 ⟨fun b ob q _ _ _=>k b ob q,fun b ob q _ _ _=>⟨ob.slots,k b ob q⟩,fun _ _ _ n _=>n,fun b ob q _=>⟨ob,k b ob q⟩,fun _ _ q=>q,fun _ _ _ q=>q,fun _ ps q=>⟨#[],by rw [q]; simp⟩⟩
theorem Un.refl:Un fs ex H H h h:=Un.kept fun _ _ q=>q
theorem Un.laid (k:∀ b u,h.get? b=some u→h'.get? b=some u)(hp:h.objs.size≤a)(hn:H a=none):Un fs ex H (br H a o) h h' where
 keep:=fun b u q _ _ _=>k b u q
 slot:=fun b u q _ _ _=>⟨u.slots,k b u q⟩
 free:=fun b u q n _=>by rw [al (Nat.ne_of_lt (Nat.lt_of_lt_of_le (Heap.lt_size q) hp))]; exact n
 there:=fun b u q _=>⟨u,k b u q⟩
 tups:=fun b xs q=>by rw [al (aF q hn)]; exact q
 frzs:=fun b u xs q=>by rw [al (aF q hn)]; exact q
 tbls:=fun b ps q=>⟨#[],by rw [al (aF q hn),q]; simp⟩
theorem Un.write (mu:Fq (H x))(he:e=x∨H e=some (.own x))(k:∀ b u,b≠e→h.get? b=some u→h'.get? b=some u)(heo:∃ u,h'.get? e=some u):Un fs ex H (br H x o) h h':=by
 have hx:∀ b,H b=none→b≠x:=fun b n z=>by subst z; rw [n] at mu; exact mu
 have hb:∀ b,H b=none→b≠e:=fun b n z=>by
  subst z
  rcases he with r | r
  ·exact hx b n r
  ·rw [n] at r; cases r
 have hm:∀ b u,H b=some u→¬ Fq (some u)→b≠x:=fun b u q nm z=>by subst z; rw [q] at mu; exact nm mu
 refine ⟨fun b u q n _ _=>k b u (hb b n) q,fun b u q n _ _=>⟨u.slots,k b u (hb b n) q⟩,fun b u q n _=>by rw [al (hx b n)]; exact n,fun b u q _=> ?_,
  fun b xs q=>by rw [al (hm b _ q fun z=>z)]; exact q,fun b u xs q=>by rw [al (hm b _ q fun z=>z)]; exact q,fun b ps q=>⟨#[],by rw [al (hm b _ q fun z=>z),q]; simp⟩⟩
 by_cases hbe:b=e
 ·subst hbe; exact heo
 ·exact ⟨u,k b u hbe q⟩
end
noncomputable def Ho (h:Heap)(H:Hp):List Addr:=(List.range h.objs.size).filter fun a=>(H a).isSome
noncomputable def qI (h:Heap)(H:Hp):Heap:=W.hideAll h (Ho h H)
theorem w9 (h:Heap)(H:Hp):(qI h H).objs.size=h.objs.size:=W.hideAll_size _ _
theorem yE {h:Heap}{H:Hp}{b:Addr}{o:Obj}(e:h.get? b=some o)(n:H b=none):(qI h H).get? b=some o:=
 W.hideAll_get _ e fun hm=>by
  have q:(H b).isSome=true:=(List.mem_filter.mp hm).2
  rw [n] at q; simp at q
theorem Bl {h:Heap}{H:Hp}{b:Addr}{o:Obj}(e:(qI h H).get? b=some o):h.get? b=some o∧H b=none:=by
 have e':h.get? b=some o:=W.of_hideAll (Ho h H) e
 refine ⟨e',?_⟩
 cases q:H b with
 | none=>rfl
 | some x=>
  have hm:b∈Ho h H:=List.mem_filter.mpr ⟨List.mem_range.mpr (Heap.lt_size e'),by simp [q]⟩
  have z:(qI h H).get? b=none:=W.hideAll_none (Ho h H) hm
  rw [z] at e; cases e
structure Mod (K:W.Frag)(mg:Str→Option Value)(base:Heap):Prop where
 kin:K.In base
 glob:base.Ns mainGlobals mg
 blt:∃ mb,base.Ns builtinsNs mb∧∀ x:Str,x≠ "__name__" →mb x=bootBuiltins x
 nolimit:base.NoLimit
structure Cx where
 prog:Program
 w:World
 K:W.Frag
 mg:Str→Option Value
 base:Heap
 A:Around
 N:List Str
 s₀:Shared
 H₀:Hp
 env:Env
 outer:List Env
 stack:List Env
 ex:List Addr
 fn:Str→Bool
 calm:Bool
 pn:List (Addr×Obj)
 xe:Value→Shared→Prop
noncomputable def jR (l:List Env):List Addr:=l.filterMap (·.frame)
noncomputable abbrev Cx.fs (X:Cx):List Addr:=jR X.outer
noncomputable def xP (sc:Scope)(x:Str):Prop:=sc.names.lookup x=some .local∨sc.names.lookup x=some .cell∨sc.names.lookup x=some .free
noncomputable def zY (sc:Scope)(x:Str):Prop:=sc.names.lookup x=some .local∨sc.names.lookup x=some .cell
noncomputable def Hv (env:Env)(h:Heap)(m:Str→Option Value)(x:Str)(u:Value):Prop:=
 (env.kindOf x=some .local∧m x=some u)∨((env.kindOf x=some .cell∨env.kindOf x=some .free)∧∃ c,env.cells.lookup x=some c∧h.IsCell c (some u))
structure Cx.Ok (X:Cx):Prop where
 mod:Mod X.K X.mg X.base
 kind:X.env.scope.kind= .function
 glob:X.env.globals=mainGlobals
 blt:X.env.builtins=builtinsNs
 above:X.s₀.heap.objs.size≤X.env.locals
 inj:∀ x y c,X.env.cells.lookup x=some c→X.env.cells.lookup y=some c→x=y
 has:∀ x,(X.env.kindOf x=some .cell∨X.env.kindOf x=some .free)→∃ c,X.env.cells.lookup x=some c
 cab:∀ x c,X.fn x=true→X.env.cells.lookup x=some c→X.s₀.heap.objs.size≤c
 hd:X.calm=true→X.A.handled=none
 frames:X.A.frames=some X.stack
 stk:X.stack=X.outer∨(X.stack=X.env :: X.outer∧X.env.frame=some X.env.locals)
 exf:∀ b∈X.ex,b≠X.env.locals∧∀ x c,X.env.cells.lookup x=some c→c≠b
 bs:∀ b o,X.base.get? b=some o→X.s₀.heap.get? b=some o∧X.H₀ b=none
 bsz:X.base.objs.size≤X.s₀.heap.objs.size
 noex:∀ b o,X.base.get? b=some o→b∉X.ex
 exfs:∀ b∈X.ex,b∉X.fs
 funs:X.s₀.heap.FunFrames X.base X.outer
 frf:∀ b∈X.fs,X.H₀ b=none
structure Inv (X:Cx)(pins:List (Addr×Obj))(σ:List (Option V))(H:Hp)(s:Shared):Prop where
 ok:X.Ok
 os:s.os=X.s₀.os
 bare:AllBare s.gens
 base:Un X.fs X.ex X.H₀ H X.s₀.heap s.heap
 loc:∃ m,s.heap.Ns X.env.locals m∧∀ (i:Nat) (x:Str) (v:V),X.N[i]?=some x→σ[i]?=some (some v)→xP X.env.scope x→∃ u,RelV v u∧Hv X.env s.heap m x u
 cell:∀ x c,X.env.cells.lookup x=some c→∃ v,s.heap.IsCell c v
 free:H X.env.locals=none
 freeC:∀ x c,X.env.cells.lookup x=some c→H c=none
 pin:∀ p∈X.pn ++ pins,s.heap.get? p.1=some p.2∧H p.1=none∧p.1≠X.env.locals∧p.1∉X.fs∧∀ v,p.2.data≠ .cell v
 hok:HOk X.prog X.w H s.heap
 len:σ.length=X.N.length
section
variable{X:Cx}{pins:List (Addr×Obj)}{σ:List (Option V)}{H H':Hp}{s:Shared}{h':Heap}
theorem Cx.Ok.nofr (ok:X.Ok){b:Addr}{o:Obj}(e:X.base.get? b=some o):b∉X.fs:=fun hb=>by
 have:=(ok.funs.mem hb).1
 rw [e] at this; cases this
theorem Inv.bs (I:Inv X pins σ H s):∀ b o,X.base.get? b=some o→s.heap.get? b=some o∧H b=none:=fun b o e=>
 ⟨I.base.keep b o (I.ok.bs b o e).1 (I.ok.bs b o e).2 (I.ok.nofr e) (I.ok.noex b o e),I.base.free b o (I.ok.bs b o e).1 (I.ok.bs b o e).2 (I.ok.noex b o e)⟩
theorem Inv.bk (I:Inv X pins σ H s):∀ b o,X.base.get? b=some o→s.heap.get? b=some o:=fun b o e=>(I.bs b o e).1
theorem Inv.mod (I:Inv X pins σ H s):Mod X.K X.mg X.base:=I.ok.mod
theorem Inv.kIn (I:Inv X pins σ H s):X.K.In s.heap:=I.ok.mod.kin.keeps I.bk
theorem Inv.lt (I:Inv X pins σ H s):X.env.locals < s.heap.objs.size:=let ⟨_,hn,_⟩:=I.loc; hn.lt
theorem Inv.sz (I:Inv X pins σ H s):X.s₀.heap.objs.size≤s.heap.objs.size:=Nat.le_trans I.ok.above (Nat.le_of_lt I.lt)
theorem Inv.nofs (I:Inv X pins σ H s){a:Addr}(h:s.heap.objs.size≤a):a∉X.fs:=fun hb=>by
 refine t8 (I.ok.funs.mem hb) fun _ o ho _=> ?_
 exact absurd (Nat.lt_of_lt_of_le (Heap.lt_size ho) (Nat.le_trans I.sz h)) (Nat.lt_irrefl _)
theorem Inv.cne (I:Inv X pins σ H s):∀ x c,X.env.cells.lookup x=some c→c≠X.env.locals:=fun x c e z=>by
 refine mf (I.cell x c e) fun v o ho hd=> ?_
 obtain ⟨m,⟨o',es,ep,ho',hd',_⟩,_⟩:=I.loc
 rw [z,ho'] at ho; cases ho; rw [hd'] at hd; cases hd
theorem Inv.funs (I:Inv X pins σ H s):s.heap.FunFrames X.base X.outer:=by
 have all:∀ (l:List Env),(∀ b∈jR l,b∈X.fs)→X.s₀.heap.FunFrames X.base l→s.heap.FunFrames X.base l:=by
  intro l
  induction l with
  | nil=>intro _ _; trivial
  | cons env r ih=>
   intro hs hl
   obtain ⟨hk,⟨L,o,hf,hn,ho,hd⟩,hr⟩:=hl
   have hL:L∈X.fs:=hs L (by unfold jR; rw [List.filterMap_cons,hf]; exact List.mem_cons_self)
   obtain ⟨sl,e⟩:=I.base.slot L o ho (I.ok.frf L hL) hL fun z=>I.ok.exfs L z hL
   exact ⟨hk,(lv L _ hf hn e hd),ih (fun b hb=>hs b (by unfold jR; rw [List.filterMap_cons,hf]; exact cN hb)) hr⟩
 exact all X.outer (fun _ hb=>hb) I.ok.funs
theorem Inv.stack (I:Inv X pins σ H s):s.heap.FunFrames X.base X.stack:=by
 rcases I.ok.stk with e | ⟨e,hf⟩
 ·rw [e]; exact I.funs
 ·rw [e]
  obtain ⟨m,hn,_⟩:=I.loc
  refine .cons (by rw [I.ok.kind]; decide) hf hn ?_ I.funs
  exact Heap.get?_none_of_le (Nat.le_trans I.ok.bsz I.ok.above)
theorem Inv.stkSub (I:Inv X pins σ H s):∀ b∈jR X.stack,b∈X.env.locals :: X.fs:=fun b hb=>by
 rcases I.ok.stk with e | ⟨e,hf⟩
 ·rw [e] at hb; exact cN hb
 ·rw [e] at hb
  unfold jR at hb
  rw [List.filterMap_cons,hf] at hb
  exact hb
theorem Inv.stkFree (I:Inv X pins σ H s):∀ b∈jR X.stack,H b=none:=fun b hb=>by
 rcases List.mem_cons.mp (I.stkSub b hb) with e | hb
 ·rw [e]; exact I.free
 ·refine t8 (I.ok.funs.mem hb) fun _ o ho _=> ?_
  exact I.base.free b o ho (I.ok.frf b hb) fun z=>I.ok.exfs b z hb
theorem Inv.step {g':Array GenState}{t':Nat}{d':Drawn}{ch:List Addr}(I:Inv X pins σ H s)
  (hch:∀ b∈ch,(b∈X.ex∨X.s₀.heap.objs.size≤b)∧b≠X.env.locals∧(∀ x c,X.env.cells.lookup x=some c→c≠b)∧∀ p∈X.pn ++ pins,p.1≠b)
  (keep:∀ b o,b≠X.env.locals→b∉X.fs→b∉ch→s.heap.get? b=some o→H b=none→h'.get? b=some o)
  (slot:∀ b o,b≠X.env.locals→b∈X.fs→b∉ch→s.heap.get? b=some o→H b=none→∃ sl,h'.get? b=some { o with slots:=sl }) (free:∀ b o,b∉ch→s.heap.get? b=some o→H b=none→H' b=none)
  (there:∀ b o,b∉ch→s.heap.get? b=some o→∃ o',h'.get? b=some o')
  (tups:∀ b xs,H b=some (.tup xs)→H' b=some (.tup xs)) (frzs:∀ b o u,H b=some (.frz o u)→H' b=some (.frz o u)) (tbls:∀ b ps,H b=some (.tbl ps)→∃ more,H' b=some (.tbl (ps ++ more)))
  (ns:∀ m,s.heap.Ns X.env.locals m→h'.Ns X.env.locals m) (hok:HOk X.prog X.w H' h') (hg:AllBare g') :
  Inv X pins σ H' { s with heap:=h',gens:=g',drawn:=d',toks:=t' }:=by
 have neL:∀ b o,X.s₀.heap.get? b=some o→b≠X.env.locals:=fun b o e=>Nat.ne_of_lt (Nat.lt_of_lt_of_le (Heap.lt_size e) I.ok.above)
 have j:∀ b o,X.s₀.heap.get? b=some o→b∉X.ex→b∉ch:=fun b o e f hb=>by
  rcases (hch b hb).1 with z | z
  ·exact f z
  ·exact absurd (Nat.lt_of_lt_of_le (Heap.lt_size e) z) (Nat.lt_irrefl _)
 have g:∀ x c,X.env.cells.lookup x=some c→∀ v,s.heap.IsCell c v→h'.IsCell c v:=fun x c e v hZ43=>by
  obtain ⟨o,ho,hd⟩:=hZ43
  have h:c∉ch:=fun z=>(hch c z).2.2.1 x c e rfl
  by_cases hc:c∈X.fs
  ·obtain ⟨sl,q⟩:=slot c o (I.cne x c e) hc h ho (I.freeC x c e)
   exact ⟨_,q,hd⟩
  ·exact ⟨o,keep c o (I.cne x c e) hc h ho (I.freeC x c e),hd⟩
 refine ⟨I.ok,I.os,hg,⟨fun b o e n hb f=> ?_,fun b o e n hb f=> ?_,fun b o e n f=> ?_,fun b o e f=> ?_,fun b xs e=>tups b xs (I.base.tups b xs e),fun b o xs e=>frzs b o xs (I.base.frzs b o xs e),fun b ps e=> ?_⟩,?_,fun x c e=> ?_,?_,fun x c e=> ?_,fun p hp=> ?_,hok,I.len⟩
 ·exact keep b o (neL b o e) hb (j b o e f) (I.base.keep b o e n hb f) (I.base.free b o e n f)
 ·obtain ⟨sl,t⟩:=I.base.slot b o e n hb f
  obtain ⟨sl',e2⟩:=slot b _ (neL b o e) hb (j b o e f) t (I.base.free b o e n f)
  exact ⟨sl',e2⟩
 ·obtain ⟨o',t⟩:=I.base.there b o e f
  exact free b o' (j b o e f) t (I.base.free b o e n f)
 ·obtain ⟨o',t⟩:=I.base.there b o e f
  exact there b o' (j b o e f) t
 ·obtain ⟨m1,t⟩:=I.base.tbls b ps e
  obtain ⟨m2,e2⟩:=tbls b _ t
  exact ⟨m1 ++ m2,by rw [e2,Array.append_assoc]⟩
 ·obtain ⟨m,hn,hl⟩:=I.loc
  refine ⟨m,ns m hn,fun i x v t e2 e3=> ?_⟩
  obtain ⟨u,r,l⟩:=hl i x v t e2 e3
  refine ⟨u,r,?_⟩
  rcases l with l | ⟨k,c,e,z⟩
  ·exact .inl l
  ·exact .inr (oG k c e (g x c e _ z))
 ·obtain ⟨v,z⟩:=I.cell x c e
  exact ⟨v,g x c e v z⟩
 ·obtain ⟨m,⟨o,_,_,ho,_⟩,_⟩:=I.loc
  exact free _ o (fun z=>(hch _ z).2.1 rfl) ho I.free
 ·refine mf (I.cell x c e) fun v o ho hd=> ?_
  exact free c o (fun z=>(hch c z).2.2.1 x c e rfl) ho (I.freeC x c e)
 ·refine rH (I.pin p hp) fun e n ne nf d=> ?_
  have h:p.1∉ch:=fun z=>(hch p.1 z).2.2.2 p hp rfl
  exact (uw (keep p.1 p.2 ne nf h e n) (free p.1 p.2 h e n) ne nf d)
theorem Inv.un {t':Nat}(I:Inv X pins σ H s)(u:Un X.fs [] H H' s.heap h')(hok:HOk X.prog X.w H' h'):Inv X pins σ H' { s with heap:=h',toks:=t' }:=by
 obtain ⟨m,⟨o,es,ep,ho,r⟩,_⟩:=id I.loc
 obtain ⟨sl,hL⟩:=u.any ho I.free (by simp)
 exact I.step (g':=s.gens) (d':=s.drawn) (ch:=[]) (fun _ z=>nomatch z) (fun b o _ hb _ e n=>u.keep b o e n hb (by simp)) (fun b o _ hb _ e n=>u.slot b o e n hb (by simp)) (fun b o _ e n=>u.free b o e n (by simp)) (fun b o _ e=>u.there b o e (by simp)) u.tups u.frzs u.tbls (fun m' hm=>by
  refine zU (hm) fun o' es' ep' ho' r'=> ?_
  rw [ho] at ho'; cases ho'
  exact (xg _ es' ep' hL r')) hok I.bare
theorem Inv.call {g':Array GenState}{t':Nat}{d':Drawn}{ch:List Addr}(I:Inv X pins σ H s)(u:Un (jR X.stack) ch H H' s.heap h')(hok:HOk X.prog X.w H' h')(hg:AllBare g')
  (hch:∀ b∈ch,(b∈X.ex∨X.s₀.heap.objs.size≤b)∧b≠X.env.locals∧(∀ x c,X.env.cells.lookup x=some c→c≠b)∧∀ p∈X.pn ++ pins,p.1≠b) :
  Inv X pins σ H' { s with heap:=h',gens:=g',drawn:=d',toks:=t' }:=by
 obtain ⟨m,⟨o,es,ep,ho,r⟩,_⟩:=id I.loc
 obtain ⟨sl,hL⟩:=u.any ho I.free fun z=>(hch _ z).2.1 rfl
 exact I.step (ch:=ch) hch (fun b o hL hb hc e n=>u.keep b o e n (fun z=>(List.mem_cons.mp (I.stkSub b z)).elim hL hb) hc) (fun b o _ _ hc e n=>u.any e n hc) (fun b o hc e n=>u.free b o e n hc) (fun b o hc e=>u.there b o e hc) u.tups u.frzs u.tbls (fun m' hm=>by
  refine zU (hm) fun o' es' ep' ho' r'=> ?_
  rw [ho] at ho'; cases ho'
  exact (xg _ es' ep' hL r')) hok hg
theorem Inv.turned {t':Nat}{it:Addr}(I:Inv X pins σ H s)(k:∀ b o,b≠it→s.heap.get? b=some o→h'.get? b=some o)(hn:H it=none)(hL:it≠X.env.locals)
  (h1:it∈X.ex∨X.s₀.heap.objs.size≤it) (h2:∀ x c,X.env.cells.lookup x=some c→c≠it) (h3:∀ p∈X.pn ++ pins,p.1≠it):Inv X pins σ H { s with heap:=h',toks:=t' }:=by
 have nit:∀ b u,H b=some u→b≠it:=fun b u e z=>by rw [z,hn] at e; cases e
 refine I.step (g':=s.gens) (d':=s.drawn) (ch:=[it]) (fun b hb=> ?_) (fun b o _ _ hc e _=>k b o (fun z=>hc (by simp [z])) e) (fun b o _ _ hc e _=>⟨o.slots,k b o (fun z=>hc (by simp [z])) e⟩) (fun _ _ _ _ n=>n)
  (fun b o hc e=>⟨o,k b o (fun z=>hc (by simp [z])) e⟩) (fun _ _ e=>e) (fun _ _ _ e=>e) (fun b ps e=>⟨#[],by rw [e]; simp⟩) (fun m hm=> ?_) (fun b u e=> ?_) I.bare
 ·have e:b=it:=by simpa using hb
  subst e
  exact (mj h1 hL h2 h3)
 ·refine zU (hm) fun o es ep ho r=> ?_
  exact (xg o es ep (k _ o (Ne.symm hL) ho) r)
 ·refine (I.hok b u e).stay (fun c v hc q=>k c v ?_ q) (fun _ q=>q) fun _ _ q=>q
  rcases hc with z | z
  ·rw [z]; exact nit b u e
  ·exact nit c _ z
theorem Inv.tok (I:Inv X pins σ H s)(t:Nat):Inv X pins σ H { s with toks:=t }:=I.un (h':=s.heap) (t':=t) Un.refl I.hok
theorem Inv.kept {t':Nat}(I:Inv X pins σ H s)(k:∀ b u,s.heap.get? b=some u→h'.get? b=some u):Inv X pins σ H { s with heap:=h',toks:=t' }:=I.un (Un.kept k) (I.hok.kept k)
theorem Inv.laid {a:Addr}{o:HO}{t':Nat}(I:Inv X pins σ H s)(k:∀ b u,s.heap.get? b=some u→h'.get? b=some u)(hp:s.heap.objs.size≤a)(new:ObjOk X.prog X.w (br H a o) h' a o) :
  Inv X pins σ (br H a o) { s with heap:=h',toks:=t' }:=I.un (Un.laid k hp (I.hok.fresh hp)) (I.hok.laid k hp new)
theorem Inv.write {x e:Addr}{o:HO}{t':Nat}(I:Inv X pins σ H s)(mu:Fq (H x))(he:e=x∨H e=some (.own x))(k:∀ b u,b≠e→s.heap.get? b=some u→h'.get? b=some u)(heo:∃ u,h'.get? e=some u)
  (new:ObjOk X.prog X.w (br H x o) h' x o):Inv X pins σ (br H x o) { s with heap:=h',toks:=t' }:=I.un (Un.write mu he k heo) (I.hok.write mu he k heo new)
theorem Inv.weak {σ':List (Option V)}(I:Inv X pins σ H s)(hl:σ'.length=σ.length)(w:∀ (i:Nat) v,σ'[i]?=some (some v)→σ[i]?=some (some v)):Inv X pins σ' H s:=
 ⟨I.ok,I.os,I.bare,I.base,let ⟨m,hn,hl'⟩:=I.loc; ⟨m,hn,fun i x v e1 e2 e3=>hl' i x v e1 (w i v e2) e3⟩,I.cell,I.free,I.freeC,I.pin,I.hok,hl.trans I.len⟩
theorem Inv.pins_of {pins':List (Addr×Obj)}(I:Inv X pins σ H s)(h:∀ p∈pins',s.heap.get? p.1=some p.2∧H p.1=none∧p.1≠X.env.locals∧p.1∉X.fs∧∀ v,p.2.data≠ .cell v):Inv X pins' σ H s:=
 ⟨I.ok,I.os,I.bare,I.base,I.loc,I.cell,I.free,I.freeC,fun p hp=>(List.mem_append.mp hp).elim (fun z=>I.pin p (List.mem_append_left _ z)) (h p),I.hok,I.len⟩
theorem s9 {N:List Str}(hN:N.Nodup){i j:Nat}{x:Str}(a:N[i]?=some x)(b:N[j]?=some x):i=j:=by
 obtain ⟨h1,e1⟩:=d7 a
 obtain ⟨h2,e2⟩:=d7 b
 exact (List.getElem_inj hN).mp (e1.trans e2.symm)
theorem pY {M:Model}{A:Around}{E:Value→Shared→Prop}{i:Nat}{x:Str}{v:V}{u:Value}{Q:Unit→Shared→Prop}(I:Inv X pins σ H s)(hN:X.N.Nodup)(hi:X.N[i]?=some x)(hx:zY X.env.scope x)(r:RelV v u)
  (h:∀ s',Inv X pins (σ.set i (some v)) H s'→(∃ a,Heap.SameBut a s.heap s'.heap∧(a=X.env.locals∨X.env.cells.lookup x=some a))→Q () s') (hf:X.fn x=true∨X.env.scope.names.lookup x=some .local:=by first | exact .inl rfl | exact .inr rfl | assumption):wpAny M A (storeName X.env x u) Q E s:=by
 obtain ⟨m,hn,hl⟩:=id I.loc
 have hcls:(X.env.scope.kind == .class || (X.env.scope.kind == .module && X.env.locals != X.env.globals))=false:=by rw [I.ok.kind]; rfl
 have hiσ:i < σ.length:=by rw [I.len]; exact (d7 hi).1
 have cne:=I.cne
 have t:∀ {a:Addr} {h':Heap},(∃ o,s.heap.get? a=some o∧H a=none)→Heap.SameBut a s.heap h'→HOk X.prog X.w H h':=fun {a h'} ha l b ob e=>by
  obtain ⟨_,_,C⟩:=ha
  refine (I.hok b ob e).stay (fun c w' hc q=>(l.2 c ?_).trans q) (fun _ q=>q) fun _ _ q=>q
  rintro rfl
  rcases hc with rfl | hc
  ·rw [C] at e; cases e
  ·rw [C] at hc; cases hc
 rcases hx with hk | hk
 ·refine wpAny_storeName_local hk hn (fun h' hn' l=> ?_) hcls
  refine zU (id hn) fun oL _ _ hoL _=> ?_
  refine h _ ⟨I.ok,I.os,I.bare,⟨fun b o e n hb hx=> ?_,fun b o e n hb hx=> ?_,I.base.free,fun b o e hx=> ?_,I.base.tups,I.base.frzs,I.base.tbls⟩,⟨_,hn',fun j y v' B D e3=> ?_⟩,fun y c e=> ?_,I.free,I.freeC,fun p hp=> ?_,t ⟨oL,hoL,I.free⟩ l,by simpa using I.len⟩ ⟨_,l,.inl rfl⟩
  ·exact (l.2 b (Nat.ne_of_lt (Nat.lt_of_lt_of_le (Heap.lt_size e) I.ok.above))).trans (I.base.keep b o e n hb hx)
  ·obtain ⟨sl,B⟩:=I.base.slot b o e n hb hx
   exact ⟨sl,(l.2 b (Nat.ne_of_lt (Nat.lt_of_lt_of_le (Heap.lt_size e) I.ok.above))).trans B⟩
  ·obtain ⟨o',B⟩:=I.base.there b o e hx
   exact ⟨o',(l.2 b (Nat.ne_of_lt (Nat.lt_of_lt_of_le (Heap.lt_size e) I.ok.above))).trans B⟩
  ·by_cases hj:j=i
   ·subst hj
    rw [hi] at B; cases B
    rw [List.getElem?_set_self hiσ] at D
    cases D
    exact ⟨u,r,.inl ⟨hk,by simp⟩⟩
   ·rw [List.getElem?_set_ne (Ne.symm hj)] at D
    obtain ⟨u',r',q⟩:=hl j y v' B D e3
    refine ⟨u',r',?_⟩
    rcases q with ⟨k,e⟩ | ⟨k,c,e,z⟩
    ·refine .inl ⟨k,?_⟩
     have:y≠x:=fun e=>hj (s9 hN B (e ▸ hi))
     simp [this,e]
    ·exact .inr (oG k c e (z.sameBut l (cne y c e)))
  ·obtain ⟨w',z⟩:=I.cell y c e
   exact ⟨w',z.sameBut l (cne y c e)⟩
  ·refine rH (I.pin p hp) fun e n ne nf d=> ?_
   exact (uw ((l.2 p.1 ne).trans e) n ne nf d)
 ·have hfn:X.fn x=true:=by
   rcases hf with z | z
   ·exact z
   ·rw [z] at hk; cases hk
  obtain ⟨c,hc⟩:=I.ok.has x (.inl hk)
  obtain ⟨w',z⟩:=I.cell x c hc
  refine wpAny_storeName_cell I.ok.kind hk hc z (fun h' hc' l=> ?_)
  obtain ⟨oc,hoc,hocd⟩:=id z
  refine h { s with heap:=h' } ⟨I.ok,I.os,I.bare,⟨fun b o e n hb hx=> ?_,fun b o e n hb hx=> ?_,I.base.free,fun b o e hx=> ?_,I.base.tups,I.base.frzs,I.base.tbls⟩,⟨m,hn.sameBut l (Ne.symm (cne x c hc)),fun j y v' B D e3=> ?_⟩,fun y c' e=> ?_,I.free,I.freeC,fun p hp=> ?_,t ⟨oc,hoc,I.freeC x c hc⟩ l,by simpa using I.len⟩ ⟨c,l,.inr hc⟩
  ·exact (l.2 b (Nat.ne_of_lt (Nat.lt_of_lt_of_le (Heap.lt_size e) (I.ok.cab x c hfn hc)))).trans (I.base.keep b o e n hb hx)
  ·obtain ⟨sl,B⟩:=I.base.slot b o e n hb hx
   exact ⟨sl,(l.2 b (Nat.ne_of_lt (Nat.lt_of_lt_of_le (Heap.lt_size e) (I.ok.cab x c hfn hc)))).trans B⟩
  ·obtain ⟨o',B⟩:=I.base.there b o e hx
   exact ⟨o',(l.2 b (Nat.ne_of_lt (Nat.lt_of_lt_of_le (Heap.lt_size e) (I.ok.cab x c hfn hc)))).trans B⟩
  ·by_cases hj:j=i
   ·subst hj
    rw [hi] at B; cases B
    rw [List.getElem?_set_self hiσ] at D
    cases D
    exact ⟨u,r,.inr (oG (.inl hk) c hc hc')⟩
   ·rw [List.getElem?_set_ne (Ne.symm hj)] at D
    obtain ⟨u',r',q⟩:=hl j y v' B D e3
    refine ⟨u',r',?_⟩
    rcases q with q | ⟨k,c',e,z'⟩
    ·exact .inl q
    ·refine .inr (oG k c' e (z'.sameBut l ?_))
     rintro rfl
     exact hj (s9 hN B (I.ok.inj _ _ _ e hc ▸ hi))
  ·by_cases hcc:c'=c
   ·subst hcc; exact ⟨_,hc'⟩
   ·obtain ⟨w2,z2⟩:=I.cell y c' e
    exact ⟨w2,z2.sameBut l hcc⟩
  ·refine rH (I.pin p hp) fun e n ne nf d=> ?_
   refine (uw ((l.2 p.1 ?_).trans e) n ne nf d)
   intro q
   rw [q,hoc] at e
   have q':oc=p.2:=Option.some.inj e
   exact d w' (by rw [← q']; exact hocd)
theorem tW {M:Model}{A:Around}{E:Value→Shared→Prop}{i:Nat}{x:Str}{v:V}{u:Value}{Q:Unit→Shared→Prop}(I:Inv X pins σ H s)(hN:X.N.Nodup)(hi:X.N[i]?=some x)(hx:zY X.env.scope x)(r:RelV v u)
  (h:∀ s',Inv X pins (σ.set i (some v)) H s'→Q () s') (hf:X.fn x=true∨X.env.scope.names.lookup x=some .local:=by first | exact .inl rfl | exact .inr rfl | assumption):wpAny M A (storeName X.env x u) Q E s:=
 pY I hN hi hx r (fun s' I' _=>h s' I') hf
theorem Inv.call' {s':Shared}{ch:List Addr}(I:Inv X pins σ H s)(ho:s'.os=s.os)(u:Un (jR X.stack) ch H H' s.heap s'.heap)(hok:HOk X.prog X.w H' s'.heap)(hg:AllBare s'.gens)
  (hch:∀ b∈ch,(b∈X.ex∨X.s₀.heap.objs.size≤b)∧b≠X.env.locals∧(∀ x c,X.env.cells.lookup x=some c→c≠b)∧∀ p∈X.pn ++ pins,p.1≠b):Inv X pins σ H' s':=by
 obtain ⟨h',g',d',t',o'⟩:=s'
 have e:o'=s.os:=ho
 subst e
 exact I.call (g':=g') (t':=t') (d':=d') u hok hg hch
end
noncomputable abbrev XK:=Value→Option Addr→Hp→Prop
noncomputable abbrev St:=List (Option V)
noncomputable abbrev VK:=V→Hp→Prop
noncomputable abbrev TE:=St→Hp→VK→Prop
noncomputable abbrev TT:=St→Hp→(Bool→Hp→Prop)→Prop
noncomputable abbrev TA:=St→Hp→(List V→Hp→Prop)→Prop
structure Ends where
 nx:St→Hp→Prop
 rt:VK
 bk:St→Hp→Prop:=fun _ _=>False
 ct:St→Hp→Prop:=fun _ _=>False
noncomputable abbrev TS:=Ends→St→Hp→Prop
inductive EP (X:Cx)(pins:List (Addr×Obj))(σ:St)(Q:VK)(u:Value)(s':Shared):Prop
 | mk (v:V) (H':Hp) (i:Inv X pins σ H' s') (r:RelV v u) (q:Q v H')
inductive TP (X:Cx)(pins:List (Addr×Obj))(σ:St)(Q:Bool→Hp→Prop)(b:Bool)(s':Shared):Prop
 | mk (H':Hp) (i:Inv X pins σ H' s') (q:Q b H')
inductive AP (X:Cx)(pins:List (Addr×Obj))(σ:St)(Q:List V→Hp→Prop)(us:List Value)(s':Shared):Prop
 | mk (vs:List V) (H':Hp) (i:Inv X pins σ H' s') (r:Vals vs us) (q:Q vs H')
inductive SN (X:Cx)(pins:List (Addr×Obj))(P:St→Hp→Prop)(s':Shared):Prop
 | mk (σ':St) (H':Hp) (i:Inv X pins σ' H' s') (q:P σ' H')
inductive SRt (X:Cx)(pins:List (Addr×Obj))(P:VK)(u:Value)(s':Shared):Prop
 | mk (v:V) (σ':St) (H':Hp) (i:Inv X pins σ' H' s') (r:RelV v u) (q:P v H')
noncomputable def SP (X:Cx)(pins:List (Addr×Obj))(D:Ends)(f:Flow)(s':Shared):Prop:=
 match f with
 | .next=>SN X pins D.nx s'
 | .brk=>SN X pins D.bk s'
 | .cont=>SN X pins D.ct s'
 | .ret u=>SRt X pins D.rt u s'
noncomputable def PE (X:Cx)(e:Expr)(t:TE):Prop:=
 ∀ (pins:List (Addr×Obj)) (s:Shared) (σ:St) (H:Hp) (Q:VK),Inv X pins σ H s→t σ H Q→wpAny (model X.prog X.w) X.A (eval e X.env) (EP X pins σ Q) X.xe s
noncomputable def PT (X:Cx)(e:Expr)(t:TT):Prop:=
 ∀ (pins:List (Addr×Obj)) (s:Shared) (σ:St) (H:Hp) (Q:Bool→Hp→Prop),Inv X pins σ H s→t σ H Q→wpAny (model X.prog X.w) X.A (isTrue e X.env (eval e X.env)) (TP X pins σ Q) X.xe s
noncomputable def PA (X:Cx)(es:List Expr)(t:TA):Prop:=
 ∀ (pos:Pos) (pins:List (Addr×Obj)) (s:Shared) (σ:St) (H:Hp) (Q:List V→Hp→Prop),Inv X pins σ H s→t σ H Q→wpAny (model X.prog X.w) X.A (spliced (backTo pos (starEach es X.env))) (AP X pins σ Q) X.xe s
noncomputable def PS (X:Cx)(st:Stmt)(t:TS):Prop:=
 ∀ (pins:List (Addr×Obj)) (s:Shared) (σ:St) (H:Hp) (D:Ends),Inv X pins σ H s→t D σ H→wpAny (model X.prog X.w) X.A (exec st X.env) (SP X pins D) X.xe s
noncomputable def Fv (X:Cx)(st:List Stmt)(t:TS):Prop:=
 ∀ (pins:List (Addr×Obj)) (s:Shared) (σ:St) (H:Hp) (D:Ends),Inv X pins σ H s→t D σ H→wpAny (model X.prog X.w) X.A (execs st X.env) (SP X pins D) X.xe s
theorem aT {α:Type}{t:Sem α}{Q Q':α→Shared→Prop}{M:Model}{A:Around}{E:Value→Shared→Prop}{s:Shared}(h:wpAny M A t Q E s)(hQ:∀ a s,Q a s→Q' a s):wpAny M A t Q' E s:=wpAny_mono h hQ fun _ _ x=>x
section
variable{X:Cx}
noncomputable def GZ (i:Nat):TE:=fun σ H Q=>∃ v,σ[i]?=some (some v)∧Q v H
noncomputable def tC (v:V):TE:=fun _ H Q=>Q v H
theorem iq {i:Nat}{x:Str}{pos:Pos}(hN:X.N[i]?=some x)(hv:xP X.env.scope x)(hd:(x == ("__debug__" :Str))=false:=by decide)(hcd:(x == ("__classdict__" :Str))=false:=by decide):PE X (.Name x pos) (GZ i):=by
 intro pins s σ H Q I h
 obtain ⟨v,e,h⟩:=h
 obtain ⟨m,hn,hl⟩:=I.loc
 obtain ⟨u,r,l⟩:=hl i x v hN e hv
 have fin:EP X pins σ Q u s:=⟨v,H,I,r,h⟩
 rcases l with ⟨hk,hm⟩ | ⟨hk,c,hc,n⟩
 ·exact wpAny_Name (wpAny_loadName_local I.ok.kind hk hn hm fin) hd
 ·rcases hk with hk | hk
  ·exact wpAny_Name (wpAny_loadName_cell I.ok.kind hk hc n fin) hd
  ·exact wpAny_Name (wpAny_loadName_free I.ok.kind hk hc n fin hcd) hd
theorem EC {i j pos}:PE X (.Constant (.int i) j pos) (tC (.int i)):=fun _ _ _ H _ I h=>wpAny_Constant_int ⟨.int i,H,I.tok _,⟨_,rfl⟩,h⟩
theorem GK {b j pos}:PE X (.Constant (.bool b) j pos) (tC (.bl b)):=fun _ _ _ H _ I h=>Constant_bool ⟨.bl b,H,I,rfl,h⟩
theorem EE {x j pos}:PE X (.Constant (.str x) j pos) (tC (.str x)):=fun _ _ _ H _ I h=>Calls.Constant_str ⟨.str x,H,I.tok _,⟨_,rfl⟩,h⟩
noncomputable def Gl (X:Cx)(x:Str):Prop:=X.env.kindOf x=some .globalImplicit
theorem qR {E:Value→Shared→Prop}{pins:List (Addr×Obj)}{s:Shared}{σ:St}{H:Hp}{x:Str}{u:Value}{pos:Pos}{Q:Value→Shared→Prop}(I:Inv X pins σ H s)(hg:Gl X x)(hm:X.mg x=some u)(h:Q u s)
  (hd:(x == ("__debug__" :Str))=false:=by decide):wpAny (model X.prog X.w) X.A (eval (.Name x pos) X.env) Q E s:=
 Calls.Name_function_global I.ok.kind hg (Calls.loadGlobal_global (by rw [I.ok.glob]; exact I.mod.glob.keeps I.bk) hm h) hd
theorem lA {E:Value→Shared→Prop}{pins:List (Addr×Obj)}{s:Shared}{σ:St}{H:Hp}{x:Str}{u:Value}{pos:Pos}{Q:Value→Shared→Prop}(I:Inv X pins σ H s)(hg:Gl X x)(hm:X.mg x=none)(hv:bootBuiltins x=some u)(h:Q u s)
  (hn:x≠ "__name__" :=by decide) (hd:(x == ("__debug__" :Str))=false:=by decide):wpAny (model X.prog X.w) X.A (eval (.Name x pos) X.env) Q E s:=by
 obtain ⟨mb,h1,h2⟩:=I.mod.blt
 exact Calls.Name_function_global I.ok.kind hg (Calls.loadGlobal_builtin (by rw [I.ok.glob]; exact I.mod.glob.keeps I.bk) hm (by rw [I.ok.blt]; exact h1.keeps I.bk) ((h2 x hn).trans hv) h) hd
theorem BA {x:Str}{v:V}{u:Value}{pos:Pos}(hg:Gl X x)(hm:X.mg x=some u)(r:RelV v u)(hd:(x == ("__debug__" :Str))=false:=by decide):PE X (.Name x pos) (tC v):=
 fun _ _ _ H _ I h=>qR I hg hm ⟨v,H,I,r,h⟩ hd
variable{a b:Expr}{ta tb:TE}{pos:Pos}
variable{tA tB':TT}{rest:List Expr}
end
noncomputable def gu (K:W.Frag)(H:Hp)(a:Addr)(xs:List V):Prop:=
 Rd H a (.lst xs)∨
  ∃ (o:Obj) (its:Array Value) (n:Nat),K.lookup a=some o∧o.cls= .type "list" ∧o.dict=none∧o.data= .seq its n∧its.size≤sizeLine∧Vals xs its.toList
noncomputable def mE (K:W.Frag)(H:Hp)(a:Addr)(xs:List V):Prop:=
 Rd H a (.tup xs)∨
  ∃ (o:Obj) (its:Array Value) (n:Nat),K.lookup a=some o∧o.cls= .type "tuple" ∧o.data= .seq its n∧its.size≤sizeLine∧Vals xs its.toList
noncomputable def Hy:Value→Option V
 | .none=>some .non
 | .bool b=>some (.bl b)
 | .int i _=>some (.int i)
 | .str x _=>some (.str x)
 | .bytes b _=>some (.byt b)
 | .float b _=>some (.flt b)
 | .ref a=>some (.ref a)
 | .type n=>some (.ty n)
 | _=>none
theorem RelV.abs {x:V}{u:Value}(r:RelV x u):Hy u=some x:=by
 cases x with
 | non=>cases r; rfl
 | bl _=>cases r; rfl
 | int _=>obtain ⟨t,rfl⟩:=r; rfl
 | str _=>obtain ⟨t,rfl⟩:=r; rfl
 | byt _=>obtain ⟨t,rfl⟩:=r; rfl
 | flt _=>obtain ⟨t,rfl⟩:=r; rfl
 | ref _=>cases r; rfl
 | ty _=>cases r; rfl
theorem RelV.inj {x y:V}{u:Value}(r:RelV x u)(q:RelV y u):x=y:=Option.some.inj (r.abs.symm.trans q.abs)
theorem Vals.inj:∀ {xs ys:List V} {us:List Value},Vals xs us→Vals ys us→xs=ys
 | _,_,_,.nil,.nil=>rfl
 | _,_,_,.cons r t,.cons r' t'=>by rw [r.inj r',Vals.inj t t']
section
variable{X:Cx}{pins:List (Addr×Obj)}{σ:St}{H:Hp}{s:Shared}{a:Addr}{xs ys:List V}
theorem Inv.list (I:Inv X pins σ H s)(h:gu X.K H a xs):∃ its:List Value,Vals xs its∧PlainL s.heap a its.toArray∧xs.length≤sizeLine:=by
 rcases h with h | ⟨o,its,n,hk,hc,hd,hs,hz,r⟩
 ·refine xM (h.ok I.hok) fun z its n r e=> ?_
  exact (iI its r (lv _ n e rfl rfl rfl) z)
 ·refine (iI its.toList r (lv o n (I.kIn a o hk) hc hd (by simpa using hs)) ?_)
  have e:=r.length
  simp only [Array.length_toList] at e
  omega
theorem Inv.tuple (I:Inv X pins σ H s)(h:mE X.K H a xs):∃ its:List Value,Vals xs its∧IsTup s.heap a its.toArray∧xs.length≤sizeLine:=by
 rcases h with h | ⟨o,its,n,hk,hc,hs,hz,r⟩
 ·refine t8 (h.ok I.hok) fun z its r p=> ?_
  exact (iI its r p z)
 ·refine (iI its.toList r (FW o (I.kIn a o hk) hc n (by simpa using hs)) ?_)
  have e:=r.length
  simp only [Array.length_toList] at e
  omega
theorem Inv.list_inj (I:Inv X pins σ H s)(h:gu X.K H a xs)(h':gu X.K H a ys):xs=ys:=by
 refine cy (I.list h) fun its r hS1 _=> ?_; obtain ⟨o,n,e,_,_,d⟩:=hS1
 refine cy (I.list h') fun its' r' hS2 _=> ?_; obtain ⟨o',n',e',_,_,d'⟩:=hS2
 rw [e] at e'; cases e'
 rw [d] at d'
 injection d' with d1 _
 have:its=its':=by simpa using congrArg Array.toList d1
 subst this
 exact r.inj r'
theorem Inv.tuple_inj (I:Inv X pins σ H s)(h:mE X.K H a xs)(h':mE X.K H a ys):xs=ys:=by
 refine cy (I.tuple h) fun its r hS3 _=> ?_; obtain ⟨o,e,_,n,d⟩:=hS3
 refine cy (I.tuple h') fun its' r' hS4 _=> ?_; obtain ⟨o',e',_,n',d'⟩:=hS4
 rw [e] at e'; cases e'
 rw [d] at d'
 injection d' with d1 _
 have:its=its':=by simpa using congrArg Array.toList d1
 subst this
 exact r.inj r'
end
section
variable{X:Cx}{pins:List (Addr×Obj)}{σ:St}{H:Hp}{s:Shared}{E:Value→Shared→Prop}
end
section
variable{X:Cx}{st:Stmt}{rest:List Stmt}{t u:TS}{e:Expr}{te:TE}{pos:Pos}
noncomputable def Ia (t u:TS):TS:=fun D σ H=>t { D with nx:=u D } σ H
theorem tB (h1:PS X st t)(h2:Fv X rest u):Fv X (st :: rest) (Ia t u):=by
 intro pins s σ H D I h
 refine wpAny_execs_cons (aT (h1 pins s σ H { D with nx:=u D } I h) fun f s1 q=> ?_)
 cases f with
 | next=>
  obtain ⟨σ',H',I',q⟩:=q
  exact h2 pins s1 σ' H' D I' q
 | ret v=>exact q
 | brk=>exact q
 | cont=>exact q
theorem BO (h1:PS X st t):Fv X [st] t:=by
 intro pins s σ H D I h
 refine wpAny_execs_cons (aT (h1 pins s σ H D I h) fun f s1 q=> ?_)
 cases f with
 | next=>exact wpAny_execs_nil q
 | ret v=>exact q
 | brk=>exact q
 | cont=>exact q
theorem Inv.quiet {pins:List (Addr×Obj)}{σ:St}{H:Hp}{s:Shared}(I:Inv X pins σ H s):interactive X.env=false:=by simp [interactive,I.ok.kind]
noncomputable def GX (te:TE):TS:=fun D σ H=>te σ H fun _ H1=>D.nx σ H1
theorem jq (he:PE X e te)(hs:swapsWith e none pos.line X.env=pure false:=by rfl):PS X (.Expr e pos) (GX te):=by
 intro pins s σ H D I h
 exact wpAny_Expr_any (aT (he pins s σ H _ I h) fun v s1 hZ44=>(by obtain ⟨x,H1,I1,r1,q1⟩:=hZ44; exact ⟨σ,H1,I1,q1⟩)) I.quiet hs
noncomputable def HZ (te:TE):TS:=fun D σ H=>te σ H D.rt
theorem uU (he:PE X e te):PS X (.Return (some e) pos) (HZ te):=by
 intro pins s σ H D I h
 exact wpAny_Return_some (aT (he pins s σ H _ I h) fun v s1 hZ45=>(by obtain ⟨x,H1,I1,r1,q1⟩:=hZ45; exact ⟨x,σ,H1,I1,r1,q1⟩))
end
noncomputable abbrev TG:=V→St→Hp→(St→Hp→Prop)→Prop
noncomputable abbrev CS:=List V→St→Hp→(St→Hp→Prop)→Prop
noncomputable def PG (X:Cx)(target:Expr)(t:TG):Prop:=
 ∀ (pins:List (Addr×Obj)) (s:Shared) (σ:St) (H:Hp) (v:V) (u:Value) (Q:St→Hp→Prop),Inv X pins σ H s→RelV v u→t v σ H Q→
  wpAny (model X.prog X.w) X.A (assign target X.env u) (fun _ s'=>SN X pins Q s') X.xe s
noncomputable def Hi (X:Cx)(ts:List Expr)(t:CS):Prop:=
 ∀ (pins:List (Addr×Obj)) (s:Shared) (σ:St) (H:Hp) (vs:List V) (us:List Value) (Q:St→Hp→Prop),Inv X pins σ H s→Vals vs us→t vs σ H Q→
  wpAny (model X.prog X.w) X.A (assignInOrder ((assignEach ts X.env).map (·.2)) us) (fun _ s'=>SN X pins Q s') X.xe s
noncomputable abbrev CT:=V→V→V→Hp→(Hp→Prop)→Prop
noncomputable def Fu (X:Cx)(t:CT):Prop:=
 ∀ (pins:List (Addr×Obj)) (s:Shared) (σ:St) (H:Hp) (o i v:V) (ov iv u:Value) (Q:Hp→Prop),Inv X pins σ H s→RelV o ov→RelV i iv→RelV v u→t o i v H Q→
  wpAny (model X.prog X.w) X.A (setItem ov iv u) (fun _ s'=>∃ H',Inv X pins σ H' s'∧Q H') X.xe s
section
variable{X:Cx}{pos:Pos}
noncomputable def b_ (i:Nat):TG:=fun v σ H Q=>Q (σ.set i (some v)) H
theorem eN {i:Nat}{x:Str}(hN:X.N.Nodup)(hi:X.N[i]?=some x)(hx:zY X.env.scope x)(hf:X.fn x=true∨X.env.scope.names.lookup x=some .local:=by first | exact .inl rfl | exact .inr rfl | assumption):PG X (.Name x pos) (b_ i):=by
 intro pins s σ H v u Q I r h
 exact wpAny_assign_Name (tW I hN hi hx r (fun s' I'=>⟨_,H,I',h⟩) hf)
noncomputable def wX:CS:=fun vs σ H Q=>vs=[]∧Q σ H
noncomputable def iY (t:TG)(u:CS):CS:=fun vs σ H Q=>∃ v r,vs=v :: r∧t v σ H fun σ' H'=>u r σ' H' Q
theorem q_:Hi X [] wX:=by
 intro pins s σ H vs us Q I r h
 obtain ⟨e,h⟩:=h
 subst e
 cases r
 exact assignInOrder_nil ⟨σ,H,I,h⟩
theorem gL {e:Expr}{es:List Expr}{t:TG}{u:CS}(h1:PG X e t)(h2:Hi X es u)
  (hs:(assignEach (e :: es) X.env).map (·.2)=assign e X.env :: (assignEach es X.env).map (·.2):=by rfl):Hi X (e :: es) (iY t u):=by
 intro pins s σ H vs us Q I r h
 obtain ⟨v,vr,e1,h⟩:=h
 subst e1
 cases r with
 | cons r rr=>
  rw [hs]
  refine assignInOrder_cons (aT (h1 pins s σ H _ _ _ I r h) fun _ s1 hZ46=> ?_)
  obtain ⟨σ1,H1,I1,q1⟩:=hZ46
  exact h2 pins s1 σ1 H1 _ _ Q I1 rr q1
noncomputable def wY (K:W.Frag)(n:Nat)(t:CS):TG:=fun v σ H Q=>∃ a xs,v= .ref a∧mE K H a xs∧xs.length=n∧t xs σ H Q
theorem uQ {es:List Expr}{k:Nat}{t:CS}{n:Nat}(hc:X.calm=true)(h:Hi X es t)
  (hn:(assignEach es X.env).length=n:=by rfl) (hst:(assignEach es X.env).findIdx? (·.1)=none:=by rfl):PG X (.Tuple es k pos) (wY X.K n t):=by
 intro pins s σ H v u Q I r hw
 obtain ⟨a,xs,e1,hq,hl,hw⟩:=hw
 subst e1
 cases r
 obtain ⟨its,rv,ht,hz⟩:=I.tuple hq
 refine assign_Tuple_tuple (I.ok.hd hc) ht (by simp [hn,← hl,rv.length]) hst fun h' hx=> ?_
 have I1:Inv X pins σ H { s with heap:=h' }:=I.kept (t':=s.toks) fun b o e=>hx b o (Nat.ne_of_lt (Heap.lt_size e)) e
 exact h pins _ σ H xs _ Q I1 (by simpa using rv) hw
noncomputable def HD (to ti:TE)(t:CT):TG:=fun v σ H Q=>to σ H fun o H1=>ti σ H1 fun i H2=>t o i v H2 fun H3=>Q σ H3
theorem EG {o i:Expr}{to ti:TE}{t:CT}(ho:PE X o to)(hi:PE X i ti)(hs:Fu X t)
  (ha:∀ v,assign (.Subscript o i pos) X.env v=(do
   let ov ← holding [v] (eval o X.env)
   let iv ← holding [v,ov] (eval i X.env)
   standAt pos
   holding [v,ov,iv] (setItem ov iv v)
   release [v,ov,iv] []):=by intro _; rfl):PG X (.Subscript o i pos) (HD to ti t):=by
 intro p s σ H v u Q I r h
 rw [ha]
 refine wpAny_bind (wpAny_holding (aT (ho p s σ H _ I h) fun ov s1 hZ47=> ?_))
 obtain ⟨x,H1,I1,r1,q1⟩:=hZ47
 refine wpAny_bind (wpAny_holding (aT (hi p s1 σ H1 _ I1 q1) fun iv s2 hZ48=> ?_))
 obtain ⟨y,H2,I2,r2,q2⟩:=hZ48
 refine wpAny_bind (wpAny_standAt (wpAny_bind (wpAny_holding (aT (hs p s2 σ H2 x y v ov iv u _ I2 r1 r2 r q2) fun _ s3 hZ49=> ?_))))
 obtain ⟨H3,I3,q3⟩:=hZ49
 exact wpAny_release ⟨σ,H3,I3,q3⟩
noncomputable def rE (te:TE)(g:TG):TS:=fun D σ H=>te σ H fun x H1=>g x σ H1 D.nx
theorem EM {tg e:Expr}{te:TE}{g:TG}(he:PE X e te)(hg:PG X tg g)(hs:swapsWithSole [tg] e pos.line X.env=pure false:=by rfl)(hw:swappedStores [tg] e X.env=pure none:=by rfl)
  (h1:(assignEach [tg] X.env).map (·.2)=[assign tg X.env]:=by rfl):PS X (.Assign [tg] e pos) (rE te g):=by
 intro pins s σ H D I h
 refine wpAny_Assign_stores (aT (he pins s σ H _ I h) fun v s1 hZ50=> ?_) hs hw
 obtain ⟨x,H1,I1,r1,q1⟩:=hZ50
 rw [h1]
 exact aT (hg pins s1 σ H1 x v _ I1 r1 q1) fun _ s2 q=>q
theorem zu {i:Nat}{x:Str}{e:Expr}{te:TE}{pos':Pos}(hN:X.N.Nodup)(hi:X.N[i]?=some x)(hx:zY X.env.scope x)(he:PE X e te)(hs:swapsWith e (some (.Name x pos')) pos.line X.env=pure false:=by rfl)(hf:X.fn x=true∨X.env.scope.names.lookup x=some .local:=by first | exact .inl rfl | exact .inr rfl | assumption) :
  PS X (.Assign [.Name x pos'] e pos) (rE te (b_ i)):=by
 intro pins s σ H D I h
 refine wpAny_Assign_Name (aT (he pins s σ H _ I h) fun v s1 hZ51=> ?_) hs
 obtain ⟨y,H1,I1,r1,q1⟩:=hZ51
 exact tW I1 hN hi hx r1 (fun s2 I2=>⟨_,H1,I2,q1⟩) hf
end
structure It where
 go:Nat→Hp→Prop
 yld:Nat→Hp→V→Hp→Prop
 stop:Nat→Hp→Prop
noncomputable def iO (X:Cx)(pins:List (Addr×Obj))(H:Hp)(b:Addr):Prop:=
 H b=none∧b≠X.env.locals∧b∉X.fs∧(b∈X.ex∨X.s₀.heap.objs.size≤b)∧(∀ x c,X.env.cells.lookup x=some c→c≠b)∧∀ p∈X.pn ++ pins,p.1≠b
theorem Inv.fpOk {X:Cx}{pins:List (Addr×Obj)}{σ:St}{H H':Hp}{s:Shared}{b:Addr}(I:Inv X pins σ H s)(hb:s.heap.objs.size≤b)(hn:H' b=none):iO X pins H' b:=by
 refine (FX hn (Nat.ne_of_gt (Nat.lt_of_lt_of_le I.lt hb)) (I.nofs hb) (.inr (Nat.le_trans I.sz hb)) (fun x c e z=> ?_) (fun p hp z=> ?_))
 ·obtain ⟨v,q⟩:=I.cell x c e
  exact absurd (Nat.lt_of_lt_of_le q.lt (by rw [z]; exact hb)) (Nat.lt_irrefl _)
 ·exact absurd (Nat.lt_of_lt_of_le (Heap.lt_size (I.pin p hp).1) (by rw [z]; exact hb)) (Nat.lt_irrefl _)
structure Turn (P:Program)(w:World)(K:W.Frag)(tg:Expr)(J:It)(fp:List Addr)(it:Addr)(tn:Nat→Heap→Prop):Prop where
 mem:it∈fp
 obj:∀ i h,tn i h→∀ b∈fp,∃ o,h.get? b=some o∧∀ v,o.data≠ .cell v
 keep:∀ i h h',tn i h→(∀ b∈fp,∀ o,h.get? b=some o→h'.get? b=some o)→tn i h'
 item:∀ (X:Cx),X.prog=P→X.w=w→X.K=K→X.calm=true→∀ (i:Nat) (pins:List (Addr×Obj)) (s:Shared) (σ:St) (H:Hp) (E:Value→Shared→Prop),Inv X pins σ H s→(∀ b∈fp,iO X pins H b)→tn i s.heap→J.go i H→
  wpAny (model P w) X.A (pyNext (.ref it)) (fun r s1=>∃ u,r=some u∧
   wpAny (model P w) X.A (letOwnedTupleGo tg (.ref it) u) (fun _ s2=>∃ x H',Inv X pins σ H' s2∧RelV x u∧J.yld i H x H'∧tn (i+1) s2.heap∧∀ b∈fp,H' b=none) E s1) E s
 done:∀ (X:Cx),X.prog=P→X.w=w→X.K=K→X.calm=true→∀ (i:Nat) (pins:List (Addr×Obj)) (s:Shared) (σ:St) (H:Hp) (E:Value→Shared→Prop),Inv X pins σ H s→(∀ b∈fp,iO X pins H b)→tn i s.heap→J.stop i H→
  wpAny (model P w) X.A (pyNext (.ref it)) (fun r s1=>r=none∧Inv X pins σ H s1) E s
 self:∀ (A:Around) (i:Nat) (s:Shared) (Q:Value→Shared→Prop) (E:Value→Shared→Prop),tn i s.heap→Q (.ref it) s→wpAny (model P w) A (pyIter (.ref it)) Q E s
noncomputable abbrev TI:=St→Hp→(It→Hp→Prop)→Prop
inductive PIE (X:Cx)(pins:List (Addr×Obj))(σ:St)(tg:Expr)(R:It→Hp→Prop)(itv:Value)(s2:Shared):Prop
 | mk (it:Addr) (fp:List Addr) (tn:Nat→Heap→Prop) (J:It) (H':Hp) (e:itv= .ref it) (i:Inv X pins σ H' s2) (T:Turn X.prog X.w X.K tg J fp it tn) (st:tn 0 s2.heap) (f:∀ b∈fp,iO X pins H' b) (q:R J H')
noncomputable def PI (X:Cx)(tg iter:Expr)(wi:TI):Prop:=
 ∀ (pins:List (Addr×Obj)) (s:Shared) (σ:St) (H:Hp) (R:It→Hp→Prop),Inv X pins σ H s→wi σ H R→
  wpAny (model X.prog X.w) X.A (eval iter X.env) (fun v s1=>wpAny (model X.prog X.w) X.A (pyIter v) (PIE X pins σ tg R) X.xe s1) X.xe s
theorem vK {M:Model}{A:Around}{E:Value→Shared→Prop}{s:Shared}{tg:Expr}{it:Addr}{u:Value}{o:Obj}{n:String}{vs:Array Value}{Q:Unit→Shared→Prop}(ho:s.heap.get? it=some o)(hc:o.cls= .type n)(hd:o.data= .fields vs)
    (hn:["enumerate","zip","dict_itemiterator","dict_reverseitemiterator","odict_iterator","itertools.zip_longest","itertools.pairwise"].contains n=false) (hQ:Q () s):wpAny M A (letOwnedTupleGo tg (.ref it) u) Q E s:=by
  unfold letOwnedTupleGo
  cases tg <;> first
    | exact wpAny_pure hQ
    | (cases u <;> first
        | exact wpAny_pure hQ
        | (refine wpAny_bind (wpAny_load ho ?_)
           rw [hc,hd]
           show wpAny M A (if (["enumerate","zip","dict_itemiterator","dict_reverseitemiterator","odict_iterator","itertools.zip_longest","itertools.pairwise"].contains n && vs[0]? == some (rawInt _))=true then _ else _) Q E s
           rw [if_neg (by intro h; rw [hn,Bool.false_and] at h; cases h)]
           exact wpAny_pure hQ))
noncomputable def Hg (K:W.Frag)(a:Addr):It:=
 ⟨fun i H=>∃ xs x,gu K H a xs∧xs[i]?=some x,fun i H x H'=>H'=H∧∀ xs,gu K H a xs→xs[i]?=some x,fun i H=>∃ xs,gu K H a xs∧xs.length≤i⟩
noncomputable def Hh (K:W.Frag)(a:Addr):It:=
 ⟨fun i H=>∃ xs x,mE K H a xs∧xs[i]?=some x,fun i H x H'=>H'=H∧∀ xs,mE K H a xs→xs[i]?=some x,fun i H=>∃ xs,mE K H a xs∧xs.length≤i⟩
noncomputable def Fo (lo:Int)(n:Nat):It:=⟨fun i _=>i < n,fun i H x H'=>H'=H∧x= .int (lo+i),fun i _=>n≤i⟩
theorem xL {P:Program}{w:World}{K:W.Frag}{tg:Expr}(a it:Addr):Turn P w K tg (Hg K a) [it] it (fun i h=>h.IsListIter it a i) where
 mem:=by simp
 obj:=fun i h q b hb=>by
  have e:b=it:=by simpa using hb
  subst e
  refine cy (q) fun o e c d=> ?_
  exact ⟨o,e,fun v z=>by rw [d] at z; cases z⟩
 keep:=fun i h h' q k=>q.at fun o e=>k it (by simp) o e
 item:=by
  intro X hP hw hK hc i pins s σ H E I hf q hg
  subst hP hw hK
  refine mf (hg) fun xs x hq hx=> ?_
  refine cy (I.list hq) fun its rv p hz=> ?_
  obtain ⟨u,hu,ru⟩:=rv.get hx
  refine oW (hf it (by simp)) fun f0 f1 f2 f3 f4 f5=> ?_
  refine wpAny_pyNext_list_item q p.isList (x:=u) (by simpa using hu) fun h' st' sb=> ?_
  have I1:Inv X pins σ H { s with heap:=h' }:=I.turned (t':=s.toks) (fun b o hb e=>(sb.2 b hb).trans e) f0 f1 f3 f4 f5
  refine cy (id st') fun o e c d=> ?_
  exact ⟨u,rfl,vK (s:={ s with heap:=h' }) e c d (by decide) (xh x H I1 ru ⟨rfl,fun ys hy=>by rw [I.list_inj hy hq]; exact hx⟩ st' (fun b hb=>(hf b hb).1))⟩
 done:=by
  intro X hP hw hK hc i pins s σ H E I hf q hg
  subst hP hw hK
  obtain ⟨xs,hq,hx⟩:=hg
  refine cy (I.list hq) fun its rv p hz=> ?_
  refine oW (hf it (by simp)) fun f0 f1 f2 f3 f4 f5=> ?_
  have hl:=rv.length
  exact wpAny_pyNext_list_end (I.ok.hd hc) q p.isList (by simp; omega) fun h' eb=>⟨rfl,I.turned (t':=s.toks) (fun b o hb e=>eb b o hb e) f0 f1 f3 f4 f5⟩
 self:=fun _ _ _ _ _ q h=>wpAny_pyIter_listiter q h
theorem u9 {P:Program}{w:World}{K:W.Frag}{tg:Expr}(a it:Addr):Turn P w K tg (Hh K a) [it] it (fun i h=>h.IsTupleIter it a i) where
 mem:=by simp
 obj:=fun i h q b hb=>by
  have e:b=it:=by simpa using hb
  subst e
  refine cy (q) fun o e c d=> ?_
  exact ⟨o,e,fun v z=>by rw [d] at z; cases z⟩
 keep:=fun i h h' q k=>q.at fun o e=>k it (by simp) o e
 item:=by
  intro X hP hw hK hc i pins s σ H E I hf q hg
  subst hP hw hK
  refine mf (hg) fun xs x hq hx=> ?_
  refine cy (I.tuple hq) fun its rv p hz=> ?_
  obtain ⟨u,hu,ru⟩:=rv.get hx
  refine oW (hf it (by simp)) fun f0 f1 f2 f3 f4 f5=> ?_
  refine wpAny_pyNext_tuple_item q (show s.heap.IsTuple a its.toArray from p) (x:=u) (by simpa using hu) fun h' st' sb=> ?_
  have I1:Inv X pins σ H { s with heap:=h' }:=I.turned (t':=s.toks) (fun b o hb e=>(sb.2 b hb).trans e) f0 f1 f3 f4 f5
  refine cy (id st') fun o e c d=> ?_
  exact ⟨u,rfl,vK (s:={ s with heap:=h' }) e c d (by decide) (xh x H I1 ru ⟨rfl,fun ys hy=>by rw [I.tuple_inj hy hq]; exact hx⟩ st' (fun b hb=>(hf b hb).1))⟩
 done:=by
  intro X hP hw hK hc i pins s σ H E I hf q hg
  subst hP hw hK
  obtain ⟨xs,hq,hx⟩:=hg
  refine cy (I.tuple hq) fun its rv p hz=> ?_
  refine oW (hf it (by simp)) fun f0 f1 f2 f3 f4 f5=> ?_
  have hl:=rv.length
  exact wpAny_pyNext_tuple_end (I.ok.hd hc) q (show s.heap.IsTuple a its.toArray from p) (by simp; omega) fun h' eb=>⟨rfl,I.turned (t':=s.toks) (fun b o hb e=>eb b o hb e) f0 f1 f3 f4 f5⟩
 self:=fun _ _ _ _ _ q h=>wpAny_pyIter_tupleiter q h
theorem u8 {P:Program}{w:World}{K:W.Frag}{tg:Expr}(it:Addr)(lo:Int)(n:Nat):Turn P w K tg (Fo lo n) [it] it (fun i h=>IsRangeIter h it (lo+(i:Nat) * 1) ((n:Int) - (i:Nat)) 1) where
 mem:=by simp
 obj:=fun i h p b hb=>by
  have e:b=it:=by simpa using hb
  subst e
  exact ⟨_,p,fun v z=>by
   have z':Data.fields _=Data.cell v:=z
   cases z'⟩
 keep:=fun i h h' p k=>k it (by simp) _ p
 item:=by
  intro X hP hw hK hc i pins s σ H E I hf p hg
  subst hP hw hK
  refine oW (hf it (by simp)) fun f0 f1 f2 f3 f4 f5=> ?_
  have W:=Walks.range (prog:=X.prog) (w:=X.w) (I.ok.hd hc) it lo 1 n
  refine W.item i s _ _ hg p fun v h' tk hv st' kk=> ?_
  obtain ⟨t,rfl⟩:=hv
  have I1:Inv X pins σ H { s with heap:=h',toks:=tk }:=I.turned (fun b o hb e=>kk b o (by simpa using hb) e) f0 f1 f3 f4 f5
  refine ⟨_,rfl,vK (s:={ s with heap:=h',toks:=tk }) (n:= "range_iterator") st' rfl rfl (by decide) (xh (.int (lo+i)) H I1 ⟨t,?_⟩ ⟨rfl,rfl⟩ st' (fun b hb=>(hf b hb).1))⟩
  rw [Int.mul_one]
 done:=by
  intro X hP hw hK hc i pins s σ H E I hf p hg
  subst hP hw hK
  refine oW (hf it (by simp)) fun f0 f1 f2 f3 f4 f5=> ?_
  exact wpAny_pyNext_range_end (I.ok.hd hc) p (by have:n≤i:=hg; omega) fun h' eb=>⟨rfl,I.turned (t':=s.toks) (fun b o hb e=>eb b o hb e) f0 f1 f3 f4 f5⟩
 self:=fun _ _ _ _ _ p h=>wpAny_pyIter_rangeiter p h
section
variable{X:Cx}{tg:Expr}
noncomputable def FQ (K:W.Frag)(tl:TE):TI:=fun σ H R=>tl σ H fun x H1=>∃ a,x= .ref a∧(∃ xs,gu K H1 a xs)∧R (Hg K a) H1
noncomputable def HE (K:W.Frag)(tl:TE):TI:=fun σ H R=>tl σ H fun x H1=>∃ a,x= .ref a∧(∃ xs,mE K H1 a xs)∧R (Hh K a) H1
theorem BF {l:Expr}{tl:TE}(hl:PE X l tl):PI X tg l (FQ X.K tl):=by
 intro pins s σ H R I h
 refine aT (hl pins s σ H _ I h) fun v s1 hZ52=> ?_
 obtain ⟨x,H1,I1,r1,q1⟩:=hZ52
 refine cy (q1) fun a e hS5 q=> ?_; obtain ⟨xs,hq⟩:=hS5
 subst e
 cases r1
 refine cy (I1.list hq) fun its rv p hz=> ?_
 refine wpAny_pyIter_list p.isList ?_
 refine ⟨s1.heap.objs.size,[s1.heap.objs.size],_,_,H1,rfl,I1.kept (t':=s1.toks) fun b o e=>Heap.get?_push_of_some _ e,xL a _,(iI _ (Heap.get?_push_size _ rfl) rfl rfl),fun b hb=> ?_,q⟩
 have e:b=s1.heap.objs.size:=by simpa using hb
 subst e
 exact I1.fpOk (Nat.le_refl _) (I1.hok.fresh (Nat.le_refl _))
theorem EH {l:Expr}{tl:TE}(hl:PE X l tl):PI X tg l (HE X.K tl):=by
 intro pins s σ H R I h
 refine aT (hl pins s σ H _ I h) fun v s1 hZ53=> ?_
 obtain ⟨x,H1,I1,r1,q1⟩:=hZ53
 refine cy (q1) fun a e hS6 q=> ?_; obtain ⟨xs,hq⟩:=hS6
 subst e
 cases r1
 refine cy (I1.tuple hq) fun its rv p hz=> ?_
 refine wpAny_pyIter_tuple (show s1.heap.IsTuple a its.toArray from p) ?_
 refine ⟨s1.heap.objs.size,[s1.heap.objs.size],_,_,H1,rfl,I1.kept (t':=s1.toks) fun b o e=>Heap.get?_push_of_some _ e,u9 a _,(iI _ (Heap.get?_push_size _ rfl) rfl rfl),fun b hb=> ?_,q⟩
 have e:b=s1.heap.objs.size:=by simpa using hb
 subst e
 exact I1.fpOk (Nat.le_refl _) (I1.hok.fresh (Nat.le_refl _))
theorem tE {pins:List (Addr×Obj)}{σ:St}{H:Hp}{s:Shared}{R:It→Hp→Prop}{E:Value→Shared→Prop}{lo hi:Int}{t u v:Tok}{tk:Nat}(I:Inv X pins σ H s)(h1: -(2 ^ 62)≤lo)(h2:lo < 2 ^ 62)(h3: -(2 ^ 62)≤hi)(h4:hi < 2 ^ 62)
  (q:R (Fo lo (hi - lo).toNat) H):wpAny (model X.prog X.w) X.A (pyIter (.ref s.heap.objs.size)) (PIE X pins σ tg R) E { s with heap:=s.heap.push { cls:= .type "range",data:= .fields #[.int lo t,.int hi u,.int 1 v] },toks:=tk }:=by
 refine wpAny_pyIter_range (IsRange.new ..) (small_one h1 h2 h3 h4) ?_
 have I1:Inv X pins σ H { s with heap:=s.heap.push { cls:= .type "range",data:= .fields #[.int lo t,.int hi u,.int 1 v] },toks:=tk }:=I.kept fun b o e=>Heap.get?_push_of_some _ e
 refine ⟨(s.heap.push { cls:= .type "range",data:= .fields #[.int lo t,.int hi u,.int 1 v] }).objs.size,[(s.heap.push { cls:= .type "range",data:= .fields #[.int lo t,.int hi u,.int 1 v] }).objs.size],_,_,H,rfl,
  I1.kept (t':=tk) fun b o e=>Heap.get?_push_of_some _ e,u8 _ lo (hi - lo).toNat,?_,fun b hb=> ?_,q⟩
 ·have e1:lo+((0:Nat):Int) * 1=lo:=by simp
  have e2:(((hi - lo).toNat:Nat):Int) - ((0:Nat):Int)=Builtin.Range.rangeSize lo hi 1:=by rw [rangeSize_one]; split <;> omega
  show IsRangeIter _ _ (lo+((0:Nat):Int) * 1) ((((hi - lo).toNat:Nat):Int) - ((0:Nat):Int)) 1
  rw [e1,e2]
  exact Heap.get?_push_size _ rfl
 ·have e:b=(s.heap.push { cls:= .type "range",data:= .fields #[.int lo t,.int hi u,.int 1 v] }).objs.size:=by simpa using hb
  subst e
  exact I1.fpOk (Nat.le_refl _) (I1.hok.fresh (Nat.le_refl _))
noncomputable def FR (ta:TA):TI:=fun σ H R=>ta σ H fun vs H1=>∃ j:Int,vs=[.int j]∧ -(2 ^ 62)≤j∧j < 2 ^ 62∧R (Fo 0 j.toNat) H1
noncomputable def FS (ta:TA):TI:=fun σ H R=>ta σ H fun vs H1=>∃ i j:Int,vs=[.int i,.int j]∧(-(2 ^ 62)≤i∧i < 2 ^ 62∧ -(2 ^ 62)≤j∧j < 2 ^ 62)∧R (Fo i (j - i).toNat) H1
theorem pS {a:Expr}{ta:TA}{p pos:Pos}(hg:Gl X "range")(hm:X.mg "range" =none)(ha:PA X [a] ta)(hs:starEach [a] X.env=[(false,eval a X.env)]:=by rfl):PI X tg (.Call (.Name "range" p) [a] [] pos) (FR ta):=by
 intro pins s σ H R I h
 refine Call_ (lA I hg hm boot_range (PyProof.Rows.callWith_type1 (aT (ha pos pins s σ H _ I h) fun us s1 hZ54=> ?_) hs rfl))
 obtain ⟨vs,H1,I1,r1,q1⟩:=hZ54
 obtain ⟨j,e,q1,q2,q⟩:=q1
 subst e
 cases r1 with
 | cons r rr=>
  cases rr
  obtain ⟨t,rfl⟩:=r
  exact call_range_1 (tE I1 (by omega) (by omega) q1 q2 (by simpa using q))
theorem xA {a b:Expr}{ta:TA}{p pos:Pos}(hg:Gl X "range")(hm:X.mg "range" =none)(ha:PA X [a,b] ta)(hs:starEach [a,b] X.env=[(false,eval a X.env),(false,eval b X.env)]:=by rfl)(hs2:starEach [b] X.env=[(false,eval b X.env)]:=by rfl) :
  PI X tg (.Call (.Name "range" p) [a,b] [] pos) (FS ta):=by
 intro pins s σ H R I h
 refine Call_ (lA I hg hm boot_range (PyProof.Rows.callWith_type1 (aT (ha pos pins s σ H _ I h) fun us s1 hZ55=> ?_) (by rw [hs,hs2]) (by rw [hs2]; rfl)))
 obtain ⟨vs,H1,I1,r1,q1⟩:=hZ55
 obtain ⟨i,j,e,⟨q1,q2,q3,q4⟩,q⟩:=q1
 subst e
 cases r1 with
 | cons r rr=>
  cases rr with
  | cons r' rr=>
   cases rr
   obtain ⟨t,rfl⟩:=r
   obtain ⟨t',rfl⟩:=r'
   exact call_range_2 (tE I1 q1 q2 q3 q4 q)
noncomputable def nX (fp:List Addr)(h:Heap):List (Addr×Obj):=fp.filterMap fun b=>(h.get? b).map fun o=>(b,o)
theorem ik {fp:List Addr}{h:Heap}{b:Addr}{o:Obj}(hb:b∈fp)(e:h.get? b=some o):(b,o)∈nX fp h:=List.mem_filterMap.mpr ⟨b,hb,by rw [e]; rfl⟩
theorem xw {fp:List Addr}{h:Heap}{p:Addr×Obj}(hp:p∈nX fp h):p.1∈fp∧h.get? p.1=some p.2:=by
 obtain ⟨b,hb,e⟩:=List.mem_filterMap.mp hp
 cases q:h.get? b with
 | none=>rw [q] at e; cases e
 | some o=>
  rw [q] at e
  have e':(b,o)=p:=Option.some.inj e
  subst e'
  exact ⟨hb,q⟩
theorem Inv.pinned {pins:List (Addr×Obj)}{σ:St}{H:Hp}{s:Shared}{fp:List Addr}(I:Inv X pins σ H s)(hf:∀ b∈fp,iO X pins H b)(ho:∀ b∈fp,∃ o,s.heap.get? b=some o∧∀ v,o.data≠ .cell v):Inv X (pins ++ nX fp s.heap) σ H s:=
 I.pins_of fun p hp=>(List.mem_append.mp hp).elim (fun z=>I.pin p (List.mem_append_right _ z)) fun z=>by
  obtain ⟨hb,e⟩:=xw z
  refine lP (hf p.1 hb) fun f0 f1 f2 _=> ?_
  obtain ⟨o,e',d⟩:=ho p.1 hb
  rw [e] at e'; cases e'
  exact (uw e f0 f1 f2 d)
theorem Inv.unpinned {pins pl:List (Addr×Obj)}{σ:St}{H:Hp}{s:Shared}(I:Inv X (pins ++ pl) σ H s):Inv X pins σ H s:=I.pins_of fun p hp=>I.pin p (List.mem_append_right _ (List.mem_append_left _ hp))
end
noncomputable abbrev R2:=V→V→Hp→VK→Prop
noncomputable def rO (X:Cx)(f:Value→Value→Sem Value)(r:R2):Prop:=
 ∀ (pins:List (Addr×Obj)) (s:Shared) (σ:St) (H:Hp) (x y:V) (v u:Value) (Q:VK),Inv X pins σ H s→RelV x v→RelV y u→r x y H Q→
  wpAny (model X.prog X.w) X.A (f v u) (EP X pins σ Q) X.xe s
noncomputable def Ii (X:Cx)(f:Value→Sem Value)(r:V→Hp→VK→Prop):Prop:=
 ∀ (pins:List (Addr×Obj)) (s:Shared) (σ:St) (H:Hp) (x:V) (v:Value) (Q:VK),Inv X pins σ H s→RelV x v→r x H Q→
  wpAny (model X.prog X.w) X.A (f v) (EP X pins σ Q) X.xe s
noncomputable def dI (X:Cx)(f:Value)(r:List V→Hp→VK→Prop):Prop:=
 ∀ (pins:List (Addr×Obj)) (s:Shared) (σ:St) (H:Hp) (xs:List V) (us:List Value) (Q:VK),Inv X pins σ H s→Vals xs us→r xs H Q→
  wpAny (model X.prog X.w) X.A (call f us) (EP X pins σ Q) X.xe s
noncomputable def Ik (r:R2)(ta tb:TE):TE:=fun σ H Q=>ta σ H fun x H1=>tb σ H1 fun y H2=>r x y H2 Q
noncomputable def rI (C:Int→Int→Prop)(g:Int→Int→V):R2:=fun x y H Q=>∃ i j,x= .int i∧y= .int j∧C i j∧Q (g i j) H
noncomputable def CF (g:Int→Int→V):R2:=fun x y H Q=>∃ i j,x= .int i∧y= .int j∧Q (g i j) H
noncomputable def rU (g:Int→V):V→Hp→VK→Prop:=fun x H Q=>∃ i,x= .int i∧Q (g i) H
section
variable{X:Cx}{a b c:Expr}{ta tb tc:TE}{pos:Pos}
theorem HA (ha:PE X a ta)(hb:PE X b tb){pins:List (Addr×Obj)}{s:Shared}{σ:St}{H:Hp}{R:V→V→Hp→Prop}(I:Inv X pins σ H s)
  (h:ta σ H fun x H1=>tb σ H1 fun y H2=>R x y H2) {Q:Value→Shared→Prop} {f:Value→Value→Sem Value}
  (hf:∀ v u s2 x y H2,Inv X pins σ H2 s2→RelV x v→RelV y u→R x y H2→wpAny (model X.prog X.w) X.A (f v u) Q X.xe s2) :
  wpAny (model X.prog X.w) X.A (eval a X.env) (fun v s₁=>wpAny (model X.prog X.w) X.A (eval b X.env) (fun u s₂=>wpAny (model X.prog X.w) X.A (f v u) Q X.xe s₂) X.xe s₁) X.xe s:=by
 refine aT (ha pins s σ H _ I h) fun v s1 hZ56=> ?_
 obtain ⟨x,H1,I1,r1,q1⟩:=hZ56
 refine aT (hb pins s1 σ H1 _ I1 q1) fun u s2 hZ57=> ?_
 obtain ⟨y,H2,I2,r2,q2⟩:=hZ57
 exact hf v u s2 x y H2 I2 r1 r2 q2
theorem HN {f:Value→Value→Sem Value}{C:Int→Int→Prop}{g:Int→Int→Int}
  (rule:∀ (i j:Int) (t u:Tok) (s:Shared) (Q:Value→Shared→Prop) (E:Value→Shared→Prop),C i j→Q (.int (g i j) s.toks) { s with toks:=s.toks+1 }→wpAny (model X.prog X.w) X.A (f (.int i t) (.int j u)) Q E s) :
  rO X f (rI C fun i j=> .int (g i j)):=by
 intro pins s σ H x y v u Q I rx ry h
 refine oC (h) fun i j hS7 hS8 hc q=> ?_; subst hS7; subst hS8
 obtain ⟨t,rfl⟩:=rx
 obtain ⟨t',rfl⟩:=ry
 exact rule i j t t' s _ _ hc ⟨.int (g i j),H,I.tok _,⟨_,rfl⟩,q⟩
theorem GE {f:Value→Value→Sem Value}{g:Int→Int→Int}
  (rule:∀ (i j:Int) (t u:Tok) (s:Shared) (Q:Value→Shared→Prop) (E:Value→Shared→Prop),Q (.int (g i j) s.toks) { s with toks:=s.toks+1 }→wpAny (model X.prog X.w) X.A (f (.int i t) (.int j u)) Q E s) :
  rO X f (CF fun i j=> .int (g i j)):=by
 intro pins s σ H x y v u Q I rx ry h
 refine bA (h) fun i j hS9 hS10 q=> ?_; subst hS9; subst hS10
 obtain ⟨t,rfl⟩:=rx
 obtain ⟨t',rfl⟩:=ry
 exact rule i j t t' s _ _ ⟨.int (g i j),H,I.tok _,⟨_,rfl⟩,q⟩
theorem En {f:Value→Value→Sem Value}{g:Int→Int→Bool}
  (rule:∀ (i j:Int) (t u:Tok) (s:Shared) (Q:Value→Shared→Prop) (E:Value→Shared→Prop),Q (.bool (g i j)) s→wpAny (model X.prog X.w) X.A (f (.int i t) (.int j u)) Q E s) :
  rO X f (CF fun i j=> .bl (g i j)):=by
 intro pins s σ H x y v u Q I rx ry h
 refine bA (h) fun i j hS11 hS12 q=> ?_; subst hS11; subst hS12
 obtain ⟨t,rfl⟩:=rx
 obtain ⟨t',rfl⟩:=ry
 exact rule i j t t' s _ _ ⟨.bl (g i j),H,I,rfl,q⟩
noncomputable def xR (i j:Int):Prop:=0 < j∧j < 1073741824
noncomputable def CMul (i j:Int):Prop:=(-(2 ^ 64) < i∧i < 2 ^ 64)∨(-(2 ^ 64) < j∧j < 2 ^ 64)
theorem CMul.ok {i j:Int}(h:CMul i j):IntMulOk i j:=by
 rcases h with ⟨h1,h2⟩ | ⟨h1,h2⟩
 ·exact .of_left (intBits_le_64 h1 h2)
 ·exact .of_right (intBits_le_64 h1 h2)
theorem Eo:rO X (binaryOp .Add) (CF fun i j=> .int (i+j)):=GE fun _ _ _ _ _ _ _ q=>add_int q
theorem Eu:rO X (binaryOp .Sub) (CF fun i j=> .int (i - j)):=GE fun _ _ _ _ _ _ _ q=>sub_int q
theorem Es:rO X (binaryOp .Mult) (rI CMul fun i j=> .int (i * j)):=HN fun _ _ _ _ _ _ _ hc q=>mul_int q hc.ok
theorem Bp:rO X (binaryOp .FloorDiv) (rI xR fun i j=> .int (i / j)):=HN fun i j _ _ _ _ _ hc q=>by
 have h1:(0:Int) < j:=hc.1
 have h2:j < 1073741824:=hc.2
 exact floordiv_int (by omega) (by rw [Int.fdiv_eq_ediv_of_nonneg i (by omega)]; exact q) (.inl (PyProof.noPylong_small (by omega)))
theorem Er:rO X (binaryOp .Mod) (rI (fun _ j=>0 < j) fun i j=> .int (i % j)):=HN fun i j _ _ _ _ _ hc q=>by
 have h1:(0:Int) < j:=hc
 exact mod_int' (by omega) (by rw [Int.fmod_eq_emod_of_nonneg i (by omega)]; exact q)
theorem Iv {f:Value→Sem Value}{g:Int→Int}
  (rule:∀ (i:Int) (t:Tok) (s:Shared) (Q:Value→Shared→Prop) (E:Value→Shared→Prop),Q (.int (g i) s.toks) { s with toks:=s.toks+1 }→wpAny (model X.prog X.w) X.A (f (.int i t)) Q E s) :
  Ii X f (rU fun i=> .int (g i)):=by
 intro pins s σ H x v Q I rx h
 obtain ⟨i,rfl,q⟩:=h
 obtain ⟨t,rfl⟩:=rx
 exact rule i t s _ _ ⟨.int (g i),H,I.tok _,⟨_,rfl⟩,q⟩
theorem E_:Ii X (unaryOp .USub) (rU fun i=> .int (-i)):=Iv fun _ _ _ _ _ q=>neg_int q
theorem GH:rO X (compareOp .Lt) (CF fun i j=> .bl (decide (i < j))):=En fun _ _ _ _ _ _ _ q=>lt_int q
theorem GG:rO X (compareOp .LtE) (CF fun i j=> .bl (decide (i≤j))):=En fun _ _ _ _ _ _ _ q=>le_int q
theorem GF:rO X (compareOp .Gt) (CF fun i j=> .bl (decide (j < i))):=En fun _ _ _ _ _ _ _ q=>gt_int q
theorem bu (b:Expr){op:CmpOp}(h:op≠ .In:=by decide)(h2:op≠ .NotIn:=by decide):behindInMarks op b=false:=by
 have e1:(op == CmpOp.In)=false:=by cases op <;> first | rfl | exact absurd rfl h
 have e2:(op == CmpOp.NotIn)=false:=by cases op <;> first | rfl | exact absurd rfl h2
 cases b <;> simp [behindInMarks,e1,e2]
theorem nN:(sizeLine:Nat) < 2 ^ 63:=by rw [sizeLine_eq]; decide
theorem uK:rO X (binaryOp .Add) (fun x y H Q=>∃ i j,x= .str i∧y= .str j∧i.length+j.length≤sizeLine∧Q (.str (i ++ j)) H):=by
 intro pins s σ H x y v u Q I rx ry h
 refine oC (h) fun i j hS13 hS14 hz q=> ?_; subst hS13; subst hS14
 obtain ⟨t,rfl⟩:=rx
 obtain ⟨t',rfl⟩:=ry
 exact add_str (fun t' tk=>⟨.str (i ++ j),H,I.tok _,⟨_,rfl⟩,q⟩) hz
theorem je {x:V}{us:List Value}(r:Vals [x] us):∃ u,us=[u]∧RelV x u:=by
 cases r with
 | cons r1 r2=>cases r2; exact ⟨_,rfl,r1⟩
theorem CK {x y:V}{us:List Value}(r:Vals [x,y] us):∃ u w',us=[u,w']∧RelV x u∧RelV y w':=by
 cases r with
 | cons r1 r2=>
  cases r2 with
  | cons r3 r4=>cases r4; exact (dJ _ _ rfl r1 r3)
theorem x8:dI X (.builtin "abs") (fun xs H Q=>∃ i,xs=[.int i]∧Q (.int (if i < 0 then -i else i)) H):=by
 intro pins s σ H xs us Q I r h
 obtain ⟨i,rfl,q⟩:=h
 obtain ⟨u,rfl,t,rfl⟩:=je r
 exact call_abs_int fun u tk=>⟨.int (if i < 0 then -i else i),H,I.tok _,⟨_,rfl⟩,q⟩
theorem wE (hc:X.calm=true):dI X (.builtin "max") (fun xs H Q=>∃ i j,xs=[.int i,.int j]∧Q (.int (if j > i then j else i)) H):=by
 intro pins s σ H xs us Q I r h
 refine mf (h) fun i j hS15 q=> ?_; subst hS15
 refine bA (CK r) fun u w' hS16 hS17 hS18=> ?_; subst hS16; obtain ⟨t,rfl⟩:=hS17; obtain ⟨t',rfl⟩:=hS18
 refine max_two_ints (I.ok.hd hc) fun h' tk k=>⟨_,H,I.kept k,?_,q⟩
 by_cases hj:j > i
 ·rw [if_pos hj,if_pos hj]; exact ⟨_,rfl⟩
 ·rw [if_neg hj,if_neg hj]; exact ⟨_,rfl⟩
end
structure ObjM (h:Heap)(x dx C:Addr)(mA:Str→Option Value):Prop where
 obj:h.get? x=some (W.instObj C dx)
 ns:h.Ns1 dx mA
 ne:dx≠x
theorem xp {h:Heap}{dx:Addr}{mA:Str→Option Value}(n:h.Ns1 dx mA):∃ od,h.get? dx=some od∧∀ name,W.lookIn name od=some (mA name):=by
 refine iN (n) fun o es ep ho hd hk _ hm=> ?_
 refine ⟨o,ho,fun name=> ?_⟩
 have e:=hm name
 unfold nsFind findBy at e
 rw [← Array.find?_toList] at e
 unfold W.lookIn
 rw [hd]
 dsimp only
 split
 ·rename_i y q
  rw [q] at e
  exact congrArg some e
 ·rename_i q
  rw [q] at e
  have a:es.toList.any (·.refKey)=false:=by
   rw [List.any_eq_false]
   intro y hy
   obtain ⟨z,t,hkey⟩:=hk y (Array.mem_toList_iff.mp hy)
   simp [DictEntry.refKey,hkey]
  have a':¬ es.toList.any (·.refKey)=true:=by rw [a]; exact Bool.false_ne_true
  rw [if_neg a']
  exact congrArg some e
theorem ObjM.look {h:Heap}{x dx C:Addr}{mA:Str→Option Value}(I:ObjM h x dx C mA):∃ od,W.InstAt h x (W.instObj C dx) C (some od)∧∀ name,W.lookIn name od=some (mA name):=
 let ⟨od,ho,hl⟩:=xp I.ns
 ⟨od,⟨I.obj,rfl,rfl,ho⟩,hl⟩
section
variable{prog:Program}{w:World}{A:Around}{E:Value→Shared→Prop}{s:Shared}{K:W.Frag}{x dx C f:Addr}{mA:Str→Option Value}{name:Str}{v:Value}
theorem AY {expr:Bool}{Q:Value→Shared→Prop}(X:K.In s.heap)(I:ObjM s.heap x dx C mA)(hg:W.plainGet K C name=true)(hh:W.hasDictIn K C=true)
  (ha:W.findIn K (.ref C) name=some none) (hv:mA name=some v) (hv':W.handedIn v=true) (h:Q v { s with toks:=s.toks+1 }) :
  wpAny (model prog w) A (getAttr (.ref x) name expr) Q E s:=by
 obtain ⟨od,J,hl⟩:=I.look
 exact W.get_value X J (W.plainGet_of hg).1 (W.findObj_own hh ha rfl (by rw [hl,hv])) hv' h
theorem yC {pl:Sem Bool}{Q:Value×List Value→Shared→Prop}(X:K.In s.heap)(I:ObjM s.heap x dx C mA)(hg:W.plainGet K C name=true)
  (hf:W.findIn K (.ref C) name=some (some (.ref f))) (ht:W.isFn K (.ref f)=true) (hv:mA name=none) (h:Q (.ref f,[.ref x]) s) :
  wpAny (model prog w) A (getMethod (.ref x) name pl) Q E s:=by
 obtain ⟨od,J,hl⟩:=I.look
 exact W.method_fn X J (W.plainGet_of hg).1 (W.plainGet_of hg).2 hf (beq_iff_eq.mp ht) (by show (W.lookIn name od).map (·.isSome)=some false; rw [hl,hv]; rfl) h
theorem BY {ns:List Str}{Q:Unit→Shared→Prop}(X:K.In s.heap)(I:ObjM s.heap x dx C mA)
  (hs:W.findIn K (.ref C) "__setattr__" =some (some (.builtin "object.__setattr__"))) (hp:W.plainOver K C=true) (ht:W.takerIn K C name=some none) (hh:W.hasDictIn K C=true)
  (hw:PySem.Within mA ns) (hsz:ns.length≤sizeLine)
  (h:∀ h',ObjM h' x dx C (fun y=>if y=name then some v else mA y)→Heap.SameBut dx s.heap h'→Q () { s with heap:=h',toks:=s.toks+2 }) :
  wpAny (model prog w) A (setAttr (.ref x) name v) Q E s:=by
 obtain ⟨od,J,hl⟩:=I.look
 refine W.set_plain X J hs (W.osa_open (s:={ s with toks:=s.toks+1 }) (r:=none) X J hp ht fun b=> ?_)
 obtain ⟨cd,hc,hd'⟩:=W.any_some hh
 have hx:s.heap.get? x=some ⟨.ref C,some dx,.plain,#[]⟩:=I.obj
 refine wpAny_bind (wpAny_pure (wpAny_bind (wpAny_bind (wpAny_loadPart hx (wpAny_bind (W.Looks.here (s:={ s with toks:=s.toks+1 }) (W.looks_clsIn X hc) ?_))))))
 rw [hd']
 refine wpAny_pure (a:=some dx) (wpAny_bind (wpAny_pure (wpAny_bind ?_)))
 refine wpAny_nsSet1 (s:={ s with toks:=s.toks+1 }) I.ns fun h' hn2 hs2=> ?_
 refine oX (hn2.count (PySem.Within.cons name v hw)) fun oD esD epD hoD hdD hcD=> ?_
 refine wpAny_bind (wpAny_lookBehind hoD (by rw [hdD]; exact pastItsLine_dict (Nat.le_trans hcD (by rw [List.length_cons]; omega))) ?_)
 exact wpAny_pure (h _ ⟨(hs2.2 _ (Ne.symm I.ne)).trans I.obj,hn2,I.ne⟩ hs2)
theorem yU {R:Result→Shared→Prop}{vs:List Value}{kw:List (Str×Value)}(X:K.In s.heap)(hm:W.makesIn K C=true)
  (hi:W.findIn K (.ref C) "__init__" =some (some (.ref f))) (hf:W.typeIn K (.ref f)=some (.type "function"))
  (h:codeAny (model prog w) (A.under (.builtin "type.__call__" ⟨.ref C :: vs,kw⟩)) (.call (.ref f) ⟨.ref (s.heap.objs.size+1) :: vs,kw⟩) (W.InitBack (s.heap.objs.size+1) R)
   { s with heap:=(s.heap.push W.emptyDict).push (W.instObj C s.heap.objs.size) }) :
  codeAny (model prog w) A (.call (.ref C) ⟨vs,kw⟩) R s:=by
 obtain ⟨hh,g,d,t,os⟩:=s
 exact W.make_core (W.makes_of X hm) (W.looks_findIn X hi) (fun self=>W.bind_fn X self hf) (.inl rfl) h
end
noncomputable def ir (f:Str)(v:V):List (Str×V)→List (Str×V)
 | []=>[(f,v)]
 | (g,x) :: r=>if g=f then (g,v) :: r else (g,x) :: ir f v r
theorem l0 (f g:Str)(v:V):∀ fs:List (Str×V),(ir f v fs).lookup g=if g=f then some v else fs.lookup g
 | []=>by
  show List.lookup g [(f,v)]=_
  by_cases h:g=f
  ·have q:(g == f)=true:=beq_iff_eq.mpr h
   simp only [List.lookup,q,if_pos h]
  ·have q:(g == f)=false:=beq_eq_false_iff_ne.mpr h
   simp only [List.lookup,q,if_neg h]
 | (k,x) :: r=>by
  have ih:=l0 f g v r
  rw [show ir f v ((k,x) :: r)=(if k=f then (k,v) :: r else (k,x) :: ir f v r) from rfl]
  by_cases hk:k=f
  ·rw [if_pos hk]
   by_cases h:g=k
   ·have q:(g == k)=true:=beq_iff_eq.mpr h
    simp only [List.lookup,q,if_pos (h.trans hk)]
   ·have q:(g == k)=false:=beq_eq_false_iff_ne.mpr h
    simp only [List.lookup,q,if_neg (fun e:g=f=>h (e.trans hk.symm))]
  ·rw [if_neg hk]
   by_cases h:g=k
   ·have q:(g == k)=true:=beq_iff_eq.mpr h
    simp only [List.lookup,q,if_neg (fun e:g=f=>hk (h.symm.trans e))]
   ·have q:(g == k)=false:=beq_eq_false_iff_ne.mpr h
    simp only [List.lookup,q]
    exact ih
theorem lx (f:Str)(v:V):∀ fs:List (Str×V),f∈(ir f v fs).map (·.1)∧∀ g,g∈fs.map (·.1)→g∈(ir f v fs).map (·.1)
 | []=>⟨by simp [ir],fun g h=>by simp at h⟩
 | (k,x) :: r=>by
  obtain ⟨i1,i2⟩:=lx f v r
  rw [show ir f v ((k,x) :: r)=(if k=f then (k,v) :: r else (k,x) :: ir f v r) from rfl]
  by_cases hk:k=f
  ·rw [if_pos hk]
   subst hk
   exact ⟨by simp,fun g h=>by simpa using h⟩
  ·rw [if_neg hk]
   refine ⟨?_,fun g h=> ?_⟩
   ·rw [List.map_cons]
    exact cN i1
   ·rw [List.map_cons] at h ⊢
    rcases List.mem_cons.mp h with e | e
    ·exact List.mem_cons.mpr (.inl e)
    ·exact cN (i2 g e)
theorem lV (f:Str)(v:V):∀ fs:List (Str×V),(ir f v fs).length≤fs.length+1
 | []=>by simp [ir]
 | (k,x) :: r=>by
  have ih:=lV f v r
  rw [show ir f v ((k,x) :: r)=(if k=f then (k,v) :: r else (k,x) :: ir f v r) from rfl]
  by_cases hk:k=f
  ·rw [if_pos hk,List.length_cons,List.length_cons]; omega
  ·rw [if_neg hk,List.length_cons,List.length_cons]; omega
theorem RelO.some_of {v:V}{o:Option Value}(r:RelO (some v) o):∃ u,o=some u∧RelV v u:=by
 cases o with
 | none=>exact (show False from r).elim
 | some u=>exact ⟨u,rfl,r⟩
theorem RelO.none_of {o:Option Value}(r:RelO none o):o=none:=by
 cases o with
 | none=>rfl
 | some u=>exact (show False from r).elim
theorem wZ {v:V}{u:Value}(r:RelV v u):W.handedIn u=true:=by
 cases v with
 | non=>cases (show u=Value.none from r); rfl
 | bl b=>cases (show u=Value.bool b from r); rfl
 | int i=>obtain ⟨t,e⟩:=(show ∃ t,u=Value.int i t from r); cases e; rfl
 | str x=>obtain ⟨t,e⟩:=(show ∃ t,u=Value.str x t from r); cases e; rfl
 | byt b=>obtain ⟨t,e⟩:=(show ∃ t,u=Value.bytes b t from r); cases e; rfl
 | flt b=>obtain ⟨t,e⟩:=(show ∃ t,u=Value.float b t from r); cases e; rfl
 | ref a=>cases (show u=Value.ref a from r); rfl
 | ty n=>cases (show u=Value.type n from r); rfl
section
variable{P:Program}{w:World}{H H':Hp}{h h':Heap}{a C dx:Addr}{fs fs':List (Str×V)}
theorem qN (hok:HOk P w H h)(e:H a=some (.ins C dx fs)):∃ mA,ObjM h a dx C mA∧(∀ f,RelO (fs.lookup f) (mA f))∧PySem.Within mA (fs.map (·.1))∧fs.length≤1000∧H dx=some (.own a):=by
 obtain ⟨d,z,ne,ob,mA,n,r,q⟩:=(show ObjOk P w H h a (.ins C dx fs) from hok a _ e)
 exact (Ba mA ⟨ob,n,ne⟩ r q z d)
end
structure Cls (K:W.Frag)(C:Addr):Prop where
 pg:W.plainGet K C Str.empty=true
 hd:W.hasDictIn K C=true
 po:W.plainOver K C=true
 sa:W.findIn K (.ref C) "__setattr__" =some (some (.builtin "object.__setattr__"))
theorem Cls.get {K:W.Frag}{C:Addr}(c:Cls K C)(f:Str):W.plainGet K C f=true:=c.pg
noncomputable def NoAttr (K:W.Frag)(C:Addr)(f:Str):Prop:=W.findIn K (.ref C) f=some none
theorem NoAttr.taker {K:W.Frag}{C:Addr}{f:Str}(n:NoAttr K C f):W.takerIn K C f=some none:=by
 unfold W.takerIn
 rw [show W.findIn K (.ref C) f=some none from n]
 rfl
structure Meth (K:W.Frag)(C:Addr)(m:Str)(f:Addr):Prop where
 at_:W.findIn K (.ref C) m=some (some (.ref f))
 fn:W.isFn K (.ref f)=true
 kp:W.keepIn K (.ref f)=true
section
variable{X:Cx}{pins:List (Addr×Obj)}{σ:St}{H:Hp}{s:Shared}{a C dx:Addr}{fs:List (Str×V)}{f:Str}{v:V}{A:Around}{E:Value→Shared→Prop}
theorem ut {b:Bool}{Q:Value→Shared→Prop}(I:Inv X pins σ H s)(e:H a=some (.ins C dx fs))(c:Cls X.K C)(n:NoAttr X.K C f)(l:fs.lookup f=some v)
  (h:∀ u s',Inv X pins σ H s'→RelV v u→Q u s'):wpAny (model X.prog X.w) A (getAttr (.ref a) f b) Q E s:=by
 refine t9 (qN I.hok e) fun mA O r _ _ _=> ?_
 obtain ⟨u,hu,ru⟩:=RelO.some_of (v:=v) (o:=mA f) (by rw [← l]; exact r f)
 exact AY I.kIn O (c.get f) c.hd n hu (wZ ru) (h u _ (I.tok _) ru)
theorem uu {m:Str}{g:Addr}{pl:Sem Bool}{Q:Value×List Value→Shared→Prop}(I:Inv X pins σ H s)(e:H a=some (.ins C dx fs))(c:Cls X.K C)(k:Meth X.K C m g)(l:fs.lookup m=none)
  (h:Q (.ref g,[.ref a]) s):wpAny (model X.prog X.w) A (getMethod (.ref a) m pl) Q E s:=by
 refine t9 (qN I.hok e) fun mA O r _ _ _=> ?_
 have hn:mA m=none:=RelO.none_of (by rw [← l]; exact r m)
 exact yC I.kIn O (c.get m) k.at_ k.fn hn h
theorem uY {y:V}{u:Value}{Q:Unit→Shared→Prop}(I:Inv X pins σ H s)(e:H a=some (.ins C dx fs))(c:Cls X.K C)(n:NoAttr X.K C f)(hl:fs.length < 1000)(ry:RelV y u)
  (h:∀ s',Inv X pins σ (br H a (.ins C dx (ir f y fs))) s'→Q () s'):wpAny (model X.prog X.w) A (setAttr (.ref a) f u) Q E s:=by
 refine t9 (qN I.hok e) fun mA O r wi _ ho=> ?_
 have hz:(fs.map (·.1)).length≤sizeLine:=by rw [List.length_map,sizeLine_eq]; omega
 refine BY I.kIn O c.sa c.po n.taker c.hd wi hz fun h' O' sb=>h _ ?_
 have hd:∃ o,h'.get? dx=some o:=let ⟨o,_,_,e',_⟩:=O'.ns; ⟨o,e'⟩
 refine I.write (x:=a) (e:=dx) (by rw [e]; exact True.intro) (.inr ho) (fun b q hb z=>(sb.2 b hb).trans z) hd ?_
 refine (FY (by rw [al O.ne]; exact ho) ?_ O.ne O'.obj _ O'.ns (fun g=> ?_) (fun g hg=> ?_))
 ·have:=lV f y fs; omega
 ·show RelO ((ir f y fs).lookup g) (if g=f then some u else mA g)
  rw [l0]
  by_cases q:g=f
  ·rw [if_pos q,if_pos q]; exact ry
  ·rw [if_neg q,if_neg q]; exact r g
 ·by_cases q:g=f
  ·rw [q]; exact (lx f y fs).1
  ·refine (lx f y fs).2 g (wi g fun z=>hg ?_)
   show (if g=f then some u else mA g)=none
   rw [if_neg q]; exact z
theorem Inv.made (I:Inv X pins σ H s):Inv X pins σ (br (br H s.heap.objs.size (.own (s.heap.objs.size+1))) (s.heap.objs.size+1) (.ins C s.heap.objs.size []))
  { s with heap:=(s.heap.push W.emptyDict).push (W.instObj C s.heap.objs.size) }:=by
 have e1:(s.heap.push W.emptyDict).get? s.heap.objs.size=some W.emptyDict:=Heap.get?_push_size s.heap rfl
 have e2:((s.heap.push W.emptyDict).push (W.instObj C s.heap.objs.size)).get? (s.heap.objs.size+1)=some (W.instObj C s.heap.objs.size):=by
  have:=Heap.get?_push_size (s.heap.push W.emptyDict) (o:=W.instObj C s.heap.objs.size) rfl
  rwa [Heap.size_push] at this
 have e3:(s.heap.push W.emptyDict).Ns s.heap.objs.size (fun _=>none):=(jT W.emptyDict (#[]) _ e1 rfl ((fun e he=>absurd he (by simp))) (fun _=>rfl))
 have I1:=I.laid (a:=s.heap.objs.size) (o:= .own (s.heap.objs.size+1)) (h':=s.heap.push W.emptyDict) (t':=s.toks) (fun b u q=>Heap.get?_push_of_some _ q) (Nat.le_refl _) ⟨_,e1⟩
 refine I1.laid (a:=s.heap.objs.size+1) (o:= .ins C s.heap.objs.size []) (t':=s.toks) (fun b u q=>Heap.get?_push_of_some _ q) (Nat.le_of_eq (Heap.size_push _ _)) ?_
 have ne:s.heap.objs.size≠s.heap.objs.size+1:=Nat.ne_of_lt (Nat.lt_succ_self _)
 refine (FY (by rw [al ne,aw]) (Nat.zero_le _) ne e2 (fun _=>none) ((Heap.Ns1.of_empty e3).at fun o q=>Heap.get?_push_of_some _ q) (fun _=>True.intro) (fun y hy=>absurd rfl hy))
theorem Af {prog:Program}{w:World}{env:Env}{e:Expr}{f:Str}{pos:Pos}{s:Shared}{Q:Value→Shared→Prop}(hb:attributeBase e f env (eval e env)=eval e env)
  (h:wpAny (model prog w) A (eval e env) (fun o s₁=>wpAny (model prog w) A (getAttr o f true) Q E s₁) E s):wpAny (model prog w) A (eval (.Attribute e f pos) env) Q E s:=
 Attribute_any_ h (by rw [arm_eval_Attribute,hb])
end
noncomputable def HX (K:W.Frag)(ta:TE)(f:Str):TE:=fun σ H Q=>ta σ H fun x H1=>∃ a C dx fs v,x= .ref a∧H1 a=some (.ins C dx fs)∧Cls K C∧NoAttr K C f∧fs.lookup f=some v∧Q v H1
noncomputable def HV (K:W.Frag)(ta tv:TE)(f:Str):TS:=fun D σ H=>tv σ H fun y H1=>ta σ H1 fun x H2=>∃ a C dx fs,x= .ref a∧H2 a=some (.ins C dx fs)∧Cls K C∧NoAttr K C f∧fs.length < 1000∧
 D.nx σ (br H2 a (.ins C dx (ir f y fs)))
section
variable{X:Cx}{o e value:Expr}{f:Str}{pos pos' tpos:Pos}{ta tv:TE}
theorem EB (he:PE X e ta)(hb:attributeBase e f X.env (eval e X.env)=eval e X.env):PE X (.Attribute e f pos) (HX X.K ta f):=by
 intro pins s σ H Q I h
 refine Af hb (aT (he pins s σ H _ I h) fun u s1 hZ58=> ?_)
 obtain ⟨x,H1,I1,rx,a,C,dx,fs,v,ex,ea,c,n,l,q⟩:=hZ58
 subst ex
 obtain rfl:u=Value.ref a:=rx
 exact ut I1 ea c n l fun u' s2 I2 ru=>⟨v,H1,I2,ru,q⟩
theorem zt (ha:PE X o ta)(hv:PE X value tv)(hs:swapsWith value (some (.Attribute o f pos')) pos.line X.env=pure false):PS X (.Assign [.Attribute o f pos'] value pos) (HV X.K ta tv f):=by
 intro pins s σ H D I h
 refine plainObj_wpAny_Assign_Attribute (aT (hv pins s σ H _ I h) fun u s1 ⟨y,H1,I1,ry,q⟩=>aT (ha pins s1 σ H1 _ I1 q) fun ov s2 hZ60=> ?_) hs
 obtain ⟨x,H2,I2,rx,a,C,dx,fs,ex,ea,c,n,l,q2⟩:=hZ60
 subst ex
 obtain rfl:ov=Value.ref a:=rx
 exact uY I2 ea c n l ry fun s3 I3=>⟨σ,_,I3,q2⟩
end
section
variable{X:Cx}{pins:List (Addr×Obj)}{σ:St}{H:Hp}{s:Shared}{A:Around}{E:Value→Shared→Prop}{Q:Value→Shared→Prop}{c:Value}{b:Bool}
end
structure Room (k:Nat)(A:Around):Prop where
 hd:A.handled=none
 dp:A.depth+3 * k+5 < recursionLimit
 un:A.units+16 * k+200 < cLine
theorem Room.mono {j k:Nat}{A:Around}(r:Room k A)(h:j≤k):Room j A:=⟨r.hd,by have:=r.dp; omega,by have:=r.un; omega⟩
theorem Room.deeper {k:Nat}{A:Around}(r:Room (k+1) A)(env:Env):Room k (A.deeper env):=
 ⟨r.hd,by have:=r.dp; show A.depth+1+3 * k+5 < _; omega,by have:=r.un; show A.units+3+16 * k+200 < _; omega⟩
theorem uF {A:Around}{C:Addr}{us:List Value}{kw:List (Str×Value)}:(A.under (.builtin "type.__call__" ⟨.ref C :: us,kw⟩)).depth=A.depth+1:=by
 first | rfl | simp [Around.under,Code.weight,Code.isCreation,Code.isGuard,Code.isCaller,Code.frames,Code.isFrame,guardIds]
theorem uG {A:Around}{C:Addr}{us:List Value}{kw:List (Str×Value)}:(A.under (.builtin "type.__call__" ⟨.ref C :: us,kw⟩)).units=A.units+1:=by
 first | rfl | simp [Around.under,Code.cUnits,Code.frames,Code.isFrame]
theorem Room.make {k:Nat}{A:Around}(r:Room (k+1) A)(C:Addr)(us:List Value)(kw:List (Str×Value)):Room k (A.under (.builtin "type.__call__" ⟨.ref C :: us,kw⟩)):=
 ⟨r.hd,by have:=r.dp; rw [uF]; omega,by have:=r.un; rw [uG]; omega⟩
theorem Room.depth {k:Nat}{A:Around}(r:Room k A):A.depth < recursionLimit:=by have:=r.dp; omega
theorem Room.units {k:Nat}{A:Around}(r:Room k A):A.units+64 < cLine:=by have:=r.un; omega
noncomputable def EV:TA:=fun _ H Q=>Q [] H
noncomputable def CG (ta:TE)(tr:TA):TA:=fun σ H Q=>ta σ H fun x H1=>tr σ H1 fun xs H2=>Q (x :: xs) H2
section
variable{X:Cx}{e:Expr}{es:List Expr}{te:TE}{t:TA}{pos:Pos}
theorem lG:PA X [] EV:=fun _ _ _ _ H Q I h=>Calls.spliced_nil ⟨[],H,I,.nil,h⟩
theorem il (ha:PE X e te)(hr:PA X es t)(hs:starEach (e :: es) X.env=(false,eval e X.env) :: starEach es X.env:=by rfl):PA X (e :: es) (CG te t):=by
 intro pos pins s σ H Q I h
 rw [hs]
 show wpAny _ _ (spliced ((false,eval e X.env) :: backTo pos (starEach es X.env))) _ _ s
 refine Calls.spliced_cons (aT (ha pins s σ H _ I h) fun u s1 hZ61=> ?_)
 obtain ⟨x,H1,I1,r1,q1⟩:=hZ61
 exact aT (hr pos pins s1 σ H1 _ I1 q1) fun us s2 hZ62=>(by obtain ⟨xs,H2,I2,r2,q2⟩:=hZ62; exact ⟨x :: xs,H2,I2,.cons r1 r2,q2⟩)
noncomputable def Ic (t:TA):TE:=fun σ H Q=>t σ H fun xs H1=>xs.length≤sizeLine∧∀ p,H1 p=none→Q (.ref p) (br H1 p (.tup xs))
noncomputable def HY (t:TA):TE:=fun σ H Q=>t σ H fun xs H1=>xs.length≤sizeLine∧∀ p,H1 p=none→Q (.ref p) (br H1 p (.lst xs))
theorem EF {x1}(h:PA X es t):PE X (.Tuple es x1 pos) (Ic t):=by
 intro pins s σ H Q I hq
 refine wpAny_Tuple_spliced (aT (h pos pins s σ H _ I hq) fun us s1 ⟨xs,H1,I1,r,z,q⟩=>⟨by rw [← r.length]; exact z,?_⟩)
 have hf:H1 s1.heap.objs.size=none:=I1.hok.fresh (Nat.le_refl _)
 refine ⟨.ref s1.heap.objs.size,br H1 s1.heap.objs.size (.tup xs),I1.laid (t':=s1.toks) (fun b u e=>Heap.get?_push_of_some _ e) (Nat.le_refl _) ?_,rfl,q _ hf⟩
 exact (oG z us r (FW _ (Heap.get?_push_size _ rfl) rfl _ rfl))
theorem zi (h:PA X es t):PE X (.List es pos) (HY t):=by
 intro pins s σ H Q I hq
 refine wpAny_List_spliced (aT (h pos pins s σ H _ I hq) fun us s1 ⟨xs,H1,I1,r,z,q⟩=>⟨by rw [← r.length]; exact z,?_⟩)
 have hf:H1 s1.heap.objs.size=none:=I1.hok.fresh (Nat.le_refl _)
 refine ⟨.ref s1.heap.objs.size,br H1 s1.heap.objs.size (.lst xs),I1.laid (t':=s1.toks) (fun b u e=>Heap.get?_push_of_some _ e) (Nat.le_refl _) ?_,rfl,q _ hf⟩
 exact (nD z us 0 r (Heap.get?_push_size _ rfl))
end
noncomputable abbrev Sp:=List V→Hp→VK→XK→Prop
noncomputable abbrev rM:=List Env→Hp→Shared→XK→Value→Shared→Prop
structure Env0 (P:Program)(w:World)(K:W.Frag)(mg:Str→Option Value)(base:Heap)(A:Around)(outer:List Env)(s:Shared)(H:Hp):Prop where
 frames:A.frames=some outer
 mod:Mod K mg base
 bs:∀ b o,base.get? b=some o→s.heap.get? b=some o∧H b=none
 bsz:base.objs.size≤s.heap.objs.size
 funs:s.heap.FunFrames base outer
 frf:∀ b∈jR outer,H b=none
 hok:HOk P w H s.heap
 bare:AllBare s.gens
inductive CE (outer:List Env)(P:Program)(w:World)(H:Hp)(s:Shared)(Q:VK)(u:Value)(s':Shared):Prop
 | mk (v:V) (H':Hp) (o:s'.os=s.os) (g:AllBare s'.gens) (n:Un (jR outer) [] H H' s.heap s'.heap) (h:HOk P w H' s'.heap) (r:RelV v u) (q:Q v H')
noncomputable def CR (CX:rM)(outer:List Env)(P:Program)(w:World)(H:Hp)(s:Shared)(Q:VK)(E:XK)(r:Result)(s':Shared):Prop:=
 match r with
 | .ok (.ret u)=>CE outer P w H s Q u s'
 | .ok _=>False
 | .error e=>CX outer H s E e s'
structure FnOk (P:Program)(w:World)(K:W.Frag)(mg:Str→Option Value)(base:Heap)(CX:rM)(k:Nat)(f:Addr)(fd:FuncData)(ps:List Str)(sp:Sp):Prop where
 len:∀ vs H Q E,sp vs H Q E→vs.length=ps.length
 run:∀ (A:Around) (outer:List Env) (s:Shared) (H:Hp) (args:Args) (us:List Value) (vs:List V) (Q:VK) (E:XK),Room k A→Env0 P w K mg base A outer s H→BindsTo s fd args (ps.zip us)→Vals vs us→sp vs H Q E→
  codeAny (model P w) A (.call (.ref f) args) (CR CX outer P w H s Q E) s
theorem FnOk.imp {P:Program}{w:World}{K:W.Frag}{mg:Str→Option Value}{base:Heap}{CX:rM}{k:Nat}{f:Addr}{fd:FuncData}{ps:List Str}{sp sp':Sp}(F:FnOk P w K mg base CX k f fd ps sp)
  (h:∀ vs H Q E,sp' vs H Q E→sp vs H Q E):FnOk P w K mg base CX k f fd ps sp':=
 ⟨fun vs H Q E q=>F.len vs H Q E (h _ _ _ _ q),fun A outer s H args us vs Q E hr he hb hv hs=>F.run A outer s H args us vs Q E hr he hb hv (h _ _ _ _ hs)⟩
theorem Env0.make {P:Program}{w:World}{K:W.Frag}{mg:Str→Option Value}{base:Heap}{A:Around}{outer:List Env}{s:Shared}{H:Hp}(e:Env0 P w K mg base A outer s H)(C:Addr)(us:List Value)(kw:List (Str×Value)) :
  Env0 P w K mg base (A.under (.builtin "type.__call__" ⟨.ref C :: us,kw⟩)) outer s H:=⟨by first | exact e.frames | (simpa [Around.under,Code.envs,Code.isFrame,pushEnvs] using e.frames),e.mod,e.bs,e.bsz,e.funs,e.frf,e.hok,e.bare⟩
section
variable{X:Cx}{pins:List (Addr×Obj)}{σ:St}{H:Hp}{s s':Shared}
theorem Inv.env0 (I:Inv X pins σ H s):Env0 X.prog X.w X.K X.mg X.base X.A X.stack s H:=
 ⟨I.ok.frames,I.ok.mod,I.bs,Nat.le_trans I.ok.bsz I.sz,I.stack,I.stkFree,I.hok,I.bare⟩
theorem Inv.after {Q:VK}{u:Value}(I:Inv X pins σ H s)(h:CE X.stack X.prog X.w H s Q u s'):EP X pins σ Q u s':=by
 obtain ⟨v,H',os,bare,un,hok,r,q⟩:=h
 obtain ⟨hh,g,d,t,os'⟩:=s'
 obtain rfl:os'=s.os:=os
 exact ⟨v,H',I.call (h':=hh) (g':=g) (d':=d) (t':=t) (ch:=[]) un hok bare (fun b z=>absurd z (by simp)),r,q⟩
end
noncomputable def GW (sp:Sp)(dvs:List V)(E:XK)(t:TA):TE:=fun σ H Q=>t σ H fun vs H1=>sp (vs ++ dvs) H1 Q E
noncomputable def CJ (C:Addr)(m:Str)(sp:Sp)(dvs:List V)(E:XK)(ta:TE)(t:TA):TE:=fun σ H Q=>ta σ H fun x H1=>∃ a dx fs,x= .ref a∧H1 a=some (.ins C dx fs)∧fs.lookup m=none∧
 t σ H1 fun vs H2=>sp (x :: (vs ++ dvs)) H2 Q E
noncomputable def CI (C:Addr)(sp:Sp)(dvs:List V)(E:XK)(t:TA):TE:=fun σ H Q=>t σ H fun vs H1=>∀ x dx,H1 x=none→H1 dx=none→dx≠x→
 sp (.ref x :: (vs ++ dvs)) (br (br H1 dx (.own x)) x (.ins C dx [])) (fun v H2=>v= .non∧Q (.ref x) H2) E
noncomputable def Binds (K:W.Frag)(fd:FuncData)(ps:List Str)(ds:List Value):Prop:=
 ∀ (s:Shared) (us:List Value),K.In s.heap→(us ++ ds).length=ps.length→BindsTo s fd ⟨us,[]⟩ (ps.zip (us ++ ds))
theorem Binds.all {K:W.Frag}{fd:FuncData}{ps:List Str}(h:∀ us:List Value,us.length=ps.length→bindArgs fd ⟨us,[]⟩=pure (ps.zip us)):Binds K fd ps []:=fun s us _ hl=>by
 rw [List.append_nil] at hl ⊢
 exact .of_eq (h us hl)
noncomputable def cP (CX:rM)(X:Cx)(E:XK):Prop:=∀ (pins:List (Addr×Obj)) (σ:St) (H:Hp) (s:Shared) (e:Value) (s':Shared),Inv X pins σ H s→CX X.stack H s E e s'→X.xe e s'
section
variable{X:Cx}{CX:rM}{k:Nat}{f C:Addr}{fd:FuncData}{ps:List Str}{sp:Sp}{dvs:List V}{ds:List Value}{E:XK}{x m:Str}{p pos apos:Pos}{e o:Expr}{es:List Expr}{ta:TE}{t:TA}
theorem zD {pins:List (Addr×Obj)}{σ:St}{H:Hp}{s:Shared}{Q:VK}{us:List Value}{vs:List V}(F:FnOk X.prog X.w X.K X.mg X.base CX k f fd ps sp)(hr:Room k X.A)(hb:Binds X.K fd ps ds)(hd:Vals dvs ds)(hx:cP CX X E)
  (I:Inv X pins σ H s) (r:Vals vs us) (h:sp (vs ++ dvs) H Q E):wpAny (model X.prog X.w) X.A (call (.ref f) us) (EP X pins σ Q) X.xe s:=by
 have r2:Vals (vs ++ dvs) (us ++ ds):=r.append hd
 have hl:(us ++ ds).length=ps.length:=by rw [← r2.length]; exact F.len _ _ _ _ h
 refine wpAny_call (codeAny_mono (F.run X.A X.stack s H ⟨us,[]⟩ (us ++ ds) (vs ++ dvs) Q E hr I.env0 (hb s us I.kIn hl) r2 h) fun r s' hq=> ?_)
 cases r with
 | error e=>exact hx pins σ H s e s' I hq
 | ok fl=>
  cases fl with
  | ret u=>exact I.after hq
  | next=>exact False.elim hq
  | brk=>exact False.elim hq
  | cont=>exact False.elim hq
theorem Bz (F:FnOk X.prog X.w X.K X.mg X.base CX k f fd ps sp)(hr:Room k X.A)(hg:Gl X x)(hm:X.mg x=some (.ref f))(hk:W.keepIn X.K (.ref f)=true)(hb:Binds X.K fd ps ds)(hd:Vals dvs ds)(hx:cP CX X E)
  (ha:PA X (e :: es) t) (hdb:(x == ("__debug__" :Str))=false:=by decide) (he:starEach (e :: es) X.env=(false,eval e X.env) :: starEach es X.env:=by rfl) (hpl:(backTo pos (starEach es X.env)).any (·.1)=false:=by rfl) :
  PE X (.Call (.Name x p) (e :: es) [] pos) (GW sp dvs E t):=by
 intro pins s σ H Q I h
 refine wpAny_Call_Name_kw (qR I hg hm ?_ hdb)
 refine W.callWith_K (h₀:=X.base) I.ok.mod.kin hk (aT (ha pos pins s σ H _ I h) fun us s1 ⟨vs,H1,I1,r,q⟩=>⟨I1.kIn,?_⟩) he hpl
 exact zD F hr hb hd hx I1 r q
theorem zj {pl:Sem Bool}(he:PE X o ta)(c:Cls X.K C)(hm:Meth X.K C m f)(F:FnOk X.prog X.w X.K X.mg X.base CX k f fd ps sp)(hr:Room k X.A)(hb:Binds X.K fd ps ds)(hd:Vals dvs ds)(hx:cP CX X E)
  (ht:eval (.Call (.Attribute o m apos) [] [] pos) X.env=(do
   let ov ← eval o X.env
   standAt apos.atName
   let (f,first) ← holding [ov] (getMethod ov m pl)
   callWith pos f first (backTo pos (starEach [] X.env)) (backToKw pos (keywordEach [] X.env))):=by rfl) :
  PE X (.Call (.Attribute o m apos) [] [] pos) (CJ C m sp dvs E ta EV):=by
 intro pins s σ H Q I h
 refine W.methodCall_KW (pl:=pl) (aT (he pins s σ H _ I h) fun u s1 hZ66=> ?_) ht
 obtain ⟨x,H1,I1,rx,a,dx,fs,ex,ea,l,q⟩:=hZ66
 subst ex
 obtain rfl:u=Value.ref a:=rx
 refine uu I1 ea c hm l ?_
 exact W.callWith_K0 (first:=[.ref a]) I1.kIn hm.kp (zD (us:=[.ref a]) (vs:=[.ref a]) F hr hb hd hx I1 (.cons rfl .nil) q)
structure Mk (K:W.Frag)(C f:Addr):Prop where
 makes:W.makesIn K C=true
 init:W.findIn K (.ref C) "__init__" =some (some (.ref f))
 fn:W.isFn K (.ref f)=true
 kp:W.keepIn K (.ref C)=true
theorem zE {pins:List (Addr×Obj)}{σ:St}{H:Hp}{s:Shared}{Q:VK}{us:List Value}{vs:List V}(M:Mk X.K C f)(F:FnOk X.prog X.w X.K X.mg X.base CX k f fd ps sp)(hr:Room (k+1) X.A)(hb:Binds X.K fd ps ds)(hd:Vals dvs ds)
  (hx:cP CX X E) (I:Inv X pins σ H s) (r:Vals vs us)
  (h:∀ x dx,H x=none→H dx=none→dx≠x→sp (.ref x :: (vs ++ dvs)) (br (br H dx (.own x)) x (.ins C dx [])) (fun v H2=>v= .non∧Q (.ref x) H2) E) :
  wpAny (model X.prog X.w) X.A (call (.ref C) us) (EP X pins σ Q) X.xe s:=by
 have hq:=h (s.heap.objs.size+1) s.heap.objs.size (I.hok.fresh (Nat.le_succ _)) (I.hok.fresh (Nat.le_refl _)) (Nat.ne_of_lt (Nat.lt_succ_self _))
 have I2:=Inv.made (C:=C) I
 have r2:Vals (V.ref (s.heap.objs.size+1) :: (vs ++ dvs)) (Value.ref (s.heap.objs.size+1) :: (us ++ ds)):= .cons rfl (r.append hd)
 have hl:(Value.ref (s.heap.objs.size+1) :: us ++ ds).length=ps.length:=by
  have e:=r2.length
  rw [F.len _ _ _ _ hq] at e
  exact e.symm
 refine wpAny_call (yU (f:=f) I.kIn M.makes M.init (beq_iff_eq.mp M.fn) (codeAny_mono (F.run _ X.stack _ _ ⟨Value.ref (s.heap.objs.size+1) :: us,[]⟩ (Value.ref (s.heap.objs.size+1) :: (us ++ ds)) _ _ E (hr.make C us [])
  (I2.env0.make C us []) (hb _ (Value.ref (s.heap.objs.size+1) :: us) I2.kIn hl) r2 hq) fun r s' t=> ?_))
 cases r with
 | error e=>exact hx pins σ _ _ e s' I2 t
 | ok fl=>
  cases fl with
  | ret u=>
   obtain ⟨v,H',I3,rv,ev,q3⟩:=I2.after t
   subst ev
   exact ⟨rv,⟨V.ref (s.heap.objs.size+1),H',I3,rfl,q3⟩⟩
  | next=>exact False.elim t
  | brk=>exact False.elim t
  | cont=>exact False.elim t
theorem BB (M:Mk X.K C f)(F:FnOk X.prog X.w X.K X.mg X.base CX k f fd ps sp)(hr:Room (k+1) X.A)(hg:Gl X x)(hm:X.mg x=some (.ref C))(hb:Binds X.K fd ps ds)(hd:Vals dvs ds)(hx:cP CX X E)
  (ha:PA X (e :: es) t) (hdb:(x == ("__debug__" :Str))=false:=by decide) (he:starEach (e :: es) X.env=(false,eval e X.env) :: starEach es X.env:=by rfl) (hpl:(backTo pos (starEach es X.env)).any (·.1)=false:=by rfl) :
  PE X (.Call (.Name x p) (e :: es) [] pos) (CI C sp dvs E t):=by
 intro pins s σ H Q I h
 refine wpAny_Call_Name_kw (qR I hg hm ?_ hdb)
 refine W.callWith_K (h₀:=X.base) I.ok.mod.kin M.kp (aT (ha pos pins s σ H _ I h) fun us s1 ⟨vs,H1,I1,r,q⟩=>⟨I1.kIn,?_⟩) he hpl
 exact zE M F hr hb hd hx I1 r q
end
section
variable{X:Cx}{CX:rM}{k:Nat}{f C:Addr}{fd:FuncData}{ps ks:List Str}{sp:Sp}{E:XK}{x m:Str}{p pos apos kpos:Pos}{e o:Expr}{es:List Expr}{kws:List Keyword}{te ta:TE}{t tk:TA}{nm:Option Str}
variable{g:List Value→List Value→List Value}{gV:List V→List V→List V}
end
structure FnScope (N P:List Str)(sc:Scope):Prop where
 kind:sc.kind= .function
 co:sc.isCoroutine=false
 gen:sc.isGenerator=false
 nd:N.Nodup
 pre:N.take P.length=P
 par:∀ x∈P,sc.names.lookup x=some .local∨sc.names.lookup x=some .cell
 nofree:∀ y∈sc.names,y.2≠ .free
theorem pe {kindOf:Str→Option NameKind}{x:Str}:∀ {binds:List (Str×Value)} {m:Str→Option Value},(∀ v,(x,v)∉binds)→bindL kindOf binds m x=m x
 | [],_,_=>rfl
 | (n,v) :: r,m,h=>by
  unfold bindL
  rw [pe fun w hw=>h w (cN hw)]
  split
  ·have:x≠n:=by rintro rfl; exact h v List.mem_cons_self
   simp [this]
  ·rfl
theorem pb {kindOf:Str→Option NameKind}{x:Str}:∀ {binds:List (Str×Value)} {m:Str→Option Value},(∀ v,(x,v)∉binds)→bindC kindOf binds m x=m x
 | [],_,_=>rfl
 | (n,v) :: r,m,h=>by
  unfold bindC
  rw [pb fun w hw=>h w (cN hw)]
  split
  ·rfl
  ·have:x≠n:=by rintro rfl; exact h v List.mem_cons_self
   simp [this]
theorem pc {kindOf:Str→Option NameKind}{x:Str}{v:Value}:∀ {P:List Str} {vs:List Value} {i:Nat} {m:Str→Option Value},P.Nodup→P[i]?=some x→vs[i]?=some v→kindOf x=some .local→
  bindL kindOf (P.zip vs) m x=some v
 | [],_,_,_,_,h,_,_=>by simp at h
 | _ :: _,[],_,_,_,_,h,_=>by simp at h
 | p :: P,w :: vs,0,m,nd,h1,h2,hk=>by
  simp at h1 h2; subst h1; subst h2
  show bindL kindOf ((p,w) :: P.zip vs) m p=_
  unfold bindL
  rw [pe fun v hv=>(List.nodup_cons.mp nd).1 (List.of_mem_zip hv).1,if_pos hk]
  simp
 | p :: P,w :: vs,i+1,m,nd,h1,h2,hk=>by
  show bindL kindOf ((p,w) :: P.zip vs) m x=_
  unfold bindL
  exact pc (i:=i) (List.nodup_cons.mp nd).2 (by simpa using h1) (by simpa using h2) hk
theorem o_ {kindOf:Str→Option NameKind}{x:Str}{v:Value}:∀ {P:List Str} {vs:List Value} {i:Nat} {m:Str→Option Value},P.Nodup→P[i]?=some x→vs[i]?=some v→kindOf x≠some .local→
  bindC kindOf (P.zip vs) m x=some v
 | [],_,_,_,_,h,_,_=>by simp at h
 | _ :: _,[],_,_,_,_,h,_=>by simp at h
 | p :: P,w :: vs,0,m,nd,h1,h2,hk=>by
  simp at h1 h2; subst h1; subst h2
  show bindC kindOf ((p,w) :: P.zip vs) m p=_
  unfold bindC
  rw [pb fun v hv=>(List.nodup_cons.mp nd).1 (List.of_mem_zip hv).1,if_neg hk]
  simp
 | p :: P,w :: vs,i+1,m,nd,h1,h2,hk=>by
  show bindC kindOf ((p,w) :: P.zip vs) m x=_
  unfold bindC
  exact o_ (i:=i) (List.nodup_cons.mp nd).2 (by simpa using h1) (by simpa using h2) hk
noncomputable def fY (N:List Str)(vs:List V):St:=vs.map some ++ List.replicate (N.length - vs.length) none
noncomputable def r9 (CX:rM)(P:Program)(w:World)(K:W.Frag)(mg:Str→Option Value)(base:Heap)(N:List Str)(qual:Str)(scope:Scope)(f:Addr)(cd:Value)(A:Around)(outer:List Env)(s:Shared)(H:Hp)(E:XK):Cx where
 prog:=P
 w:=w
 K:=K
 mg:=mg
 base:=base
 A:=A.deeper (envOfC qual scope s.heap.objs.size f cd)
 N:=N
 s₀:=s
 H₀:=H
 env:=envOfC qual scope s.heap.objs.size f cd
 outer:=outer
 stack:=envOfC qual scope s.heap.objs.size f cd :: outer
 ex:=[]
 calm:=true
 fn:=fun _=>true
 pn:=[]
 xe:=fun e s'=>wpAny (model P w) (A.deeper (envOfC qual scope s.heap.objs.size f cd)) (leaving (envOfC qual scope s.heap.objs.size f cd) e) (fun _ s''=>CX outer H s E e s'') (fun e' s''=>CX outer H s E e' s'') s'
theorem r6 {sc:Scope}{n:Nat}{x:Str}(h:sc.names.lookup x=some .cell):∃ c,(cellsFrom n sc.names []).lookup x=some c:=by
 have q:=W.cellsFrom_some sc.names n [] (.inl h)
 exact Option.isSome_iff_exists.mp q
theorem xf {CX:rM}{P:Program}{w:World}{K:W.Frag}{mg:Str→Option Value}{base:Heap}{N ps:List Str}{qual:Str}{scope:Scope}{f:Addr}{cd:Value}{A:Around}{outer:List Env}{s s1:Shared}{H:Hp}{E:XK}{us:List Value}{vs:List V}
  (S:FnScope N ps scope) (hd:A.handled=none) (e0:Env0 P w K mg base A outer s H) (hl:vs.length=ps.length) (r:Vals vs us)
  (x:InCallC s s.heap.objs.size (bindL (envOfC qual scope s.heap.objs.size f cd).kindOf (ps.zip us) fun _=>none) (cellsFrom (s.heap.objs.size+1) scope.names []) (bindC (envOfC qual scope s.heap.objs.size f cd).kindOf (ps.zip us) fun _=>none) s1) :
  Inv (r9 CX P w K mg base N qual scope f cd A outer s H E) [] (fY N vs) H s1:=by
 have hpl:ps.length≤N.length:=by have:=congrArg List.length S.pre; rw [List.length_take] at this; omega
 refine mf (x.done) fun h1 tk hS19 hk=> ?_; subst hS19
 have noA:∀ b:Addr,b∉(r9 CX P w K mg base N qual scope f cd A outer s H E).ex:=fun b z=>absurd (show b∈([]:List Addr) from z) (by simp)
 refine ⟨⟨e0.mod,S.kind,rfl,rfl,Nat.le_refl _,fun y z c h1 t=> ?_,fun y hy=> ?_,fun y c _ h=> ?_,fun _=>hd,Around.frames_deeper e0.frames,.inr ⟨rfl,rfl⟩,fun b z=>absurd z (noA b),e0.bs,e0.bsz,fun b _ _=>noA b,fun b z=>absurd z (noA b),e0.funs,e0.frf⟩,
  rfl,e0.bare,Un.kept hk,⟨_,x.toInCall.ns,fun i y v h1 t h3=> ?_⟩,fun y c h=>⟨_,x.cell y c h⟩,e0.hok.fresh (Nat.le_refl _),fun y c h=> ?_,fun p hp=>absurd (show p∈([]:List (Addr×Obj)) from hp) (by simp),e0.hok.kept hk,?_⟩
 ·exact name_of_addr x.apart (PySem.mem_of_lookup h1) (PySem.mem_of_lookup t)
 ·have hy:scope.names.lookup y=some .cell∨scope.names.lookup y=some .free:=hy
  rcases hy with hy | hy
  ·exact r6 hy
  ·exact absurd rfl (S.nofree _ (PySem.mem_of_lookup hy))
 ·exact Nat.le_of_lt (x.above y c (PySem.mem_of_lookup h))
 ·have hi:i < vs.length:=by
   unfold fY at t
   by_cases hi:i < vs.length
   ·exact hi
   ·rw [List.getElem?_append_right (by simpa using hi)] at t
    rw [List.getElem?_replicate] at t
    split at t <;> cases t
  have ha:vs[i]?=some v:=by
   unfold fY at t
   rw [List.getElem?_append_left (by simpa using hi),List.getElem?_map] at t
   cases e:vs[i]? with
   | none=>rw [e] at t; cases t
   | some a=>rw [e] at t; cases t; rfl
  obtain ⟨u,hu,rv⟩:=r.get ha
  have hp:ps[i]?=some y:=by
   rw [← S.pre,List.getElem?_take_of_lt (by omega)]; exact h1
  have ndP:ps.Nodup:=by rw [← S.pre]; exact S.nd.sublist (List.take_sublist _ _)
  refine ⟨u,rv,?_⟩
  rcases S.par y (List.mem_of_getElem? hp) with k | k
  ·exact .inl ⟨k,pc ndP hp hu k⟩
  ·obtain ⟨c,e⟩:=r6 (n:=s.heap.objs.size+1) k
   refine .inr (oG (.inl k) c e ?_)
   have q:=x.cell y c e
   rw [o_ ndP hp hu (by show scope.names.lookup y≠_; rw [k]; decide)] at q
   exact q
 ·exact e0.hok.fresh (Nat.le_of_lt (x.above y c (PySem.mem_of_lookup h)))
 ·unfold fY
  show _=N.length
  rw [List.length_append,List.length_map,List.length_replicate]
  omega
theorem yu {CX:rM}{P:Program}{w:World}{K:W.Frag}{mg:Str→Option Value}{base:Heap}{k:Nat}{f:Addr}{name qual:Str}{params:Arguments}{body:List Stmt}{scope:Scope}{dV kV doc pm cdv ct oc:Value}{an od:Option Addr}
  {osl:Array (Option Value)} {N ps:List Str} {sp:Sp} (lk:K.lookup f=some ⟨oc,od,.func (W.fnOf name qual params body scope dV kV doc pm an cdv ct),osl⟩) (hcd:W.codeIn K cdv qual=true) (S:FnScope N ps scope)
  (len:∀ vs H Q E,sp vs H Q E→vs.length=ps.length)
  (hbody:∀ (A:Around) (outer:List Env) (s:Shared) (H:Hp) (vs:List V) (Q:VK) (E:XK),Room k (A.deeper (envOfC qual scope s.heap.objs.size f cdv))→sp vs H Q E→
   ∃ t,Fv (r9 CX P w K mg base N qual scope f cdv A outer s H E) body t∧t { nx:=fun _ H'=>Q .non H',rt:=Q } (fY N vs) H) :
  FnOk P w K mg base CX (k+1) f (W.fnOf name qual params body scope dV kV doc pm an cdv ct) ps sp:=by
 refine ⟨len,fun A outer s H args us vs Q E hr e0 hb r hsp=> ?_⟩
 have hl:=len _ _ _ _ hsp
 have KX:K.In s.heap:=e0.mod.kin.keeps fun b o e=>(e0.bs b o e).1
 have lim:s.heap.NoLimit:=e0.mod.nolimit.keeps fun b o e=>(e0.bs b o e).1
 have hkind:∀ y∈ps.zip us,scope.names.lookup y.1=some .local∨(scope.names.lookup y.1=some .cell∧((cellsFrom (s.heap.objs.size+1) scope.names []).lookup y.1).isSome=true):=fun ⟨n,v⟩ hy=>by
  rcases S.par n (List.of_mem_zip hy).1 with q | q
  ·exact .inl q
  ·exact .inr ⟨q,W.cellsFrom_some _ _ _ (.inl q)⟩
 refine codeAny_call_function hr.depth (KX _ _ lk) rfl S.co S.gen rfl (W.codeRec_of KX hcd) (hb _ _ _ _ ?_)
 refine wpAny_newFunctionEnv_cells S.kind hkind fun env he s1 x=> ?_
 subst he
 refine ⟨lim.keeps x.toInCall.keep,codeAny_func ?_⟩
 obtain ⟨t,ht,hq⟩:=hbody A outer s H vs Q E (hr.deeper _) hsp
 have I:Inv (r9 CX P w K mg base N qual scope f cdv A outer s H E) [] (fY N vs) H s1:=xf S hr.hd e0 hl r x
 refine wpAny_mono (ht [] s1 (fY N vs) H _ I hq) (fun fl s' hs=> ?_) fun e s' hs=>hs
 have fin:∀ {z:St} {H':Hp} {v:V} {u:Value},Inv (r9 CX P w K mg base N qual scope f cdv A outer s H E) [] z H' s'→RelV v u→Q v H'→CE outer P w H s Q u s':=
  fun {z H' v u} J rv q=>⟨v,H',J.os,J.bare,J.base,J.hok,rv,q⟩
 cases fl with
 | ret u=>
  obtain ⟨v,z,H',J,rv,q⟩:=hs
  exact fin J rv q
 | next=>
  obtain ⟨z,H',J,q⟩:=hs
  exact fin (v:=V.non) (u:=Value.none) J rfl q
 | brk=>
  obtain ⟨_,_,_,q⟩:=hs
  exact False.elim q
 | cont=>
  obtain ⟨_,_,_,q⟩:=hs
  exact False.elim q
section
variable{X:Cx}{x:Str}{p pos:Pos}{e:Expr}{es:List Expr}{t:TA}{id T:String}{r:List V→Hp→VK→Prop}
noncomputable def HW (r:List V→Hp→VK→Prop)(t:TA):TE:=fun σ H Q=>t σ H fun vs H1=>r vs H1 Q
theorem tt (hc:dI X (.builtin id) r)(hg:Gl X x)(hm:X.mg x=none)(hv:bootBuiltins x=some (.builtin id))(ha:PA X (e :: es) t)(hn:x≠ "__name__" :=by decide)(hdb:(x == ("__debug__" :Str))=false:=by decide)
  (he:starEach (e :: es) X.env=(false,eval e X.env) :: starEach es X.env:=by rfl) (hpl:(backTo pos (starEach es X.env)).any (·.1)=false:=by rfl):PE X (.Call (.Name x p) (e :: es) [] pos) (HW r t):=by
 intro pins s σ H Q I h
 refine wpAny_Call_Name_kw (lA I hg hm hv ?_ hn hdb)
 exact PyProof.Rows.callWith_builtin1 (aT (ha pos pins s σ H _ I h) fun us s1 hZ68=>(by obtain ⟨vs,H1,I1,r1,q1⟩:=hZ68; exact hc pins s1 σ H1 vs us Q I1 r1 q1)) he hpl
theorem gK (hc:dI X (.type T) r)(hg:Gl X x)(hm:X.mg x=none)(hv:bootBuiltins x=some (.type T))(ha:PA X (e :: es) t)(hn:x≠ "__name__" :=by decide)(hdb:(x == ("__debug__" :Str))=false:=by decide)
  (he:starEach (e :: es) X.env=(false,eval e X.env) :: starEach es X.env:=by rfl) (hpl:(backTo pos (starEach es X.env)).any (·.1)=false:=by rfl):PE X (.Call (.Name x p) (e :: es) [] pos) (HW r t):=by
 intro pins s σ H Q I h
 refine wpAny_Call_Name_kw (lA I hg hm hv ?_ hn hdb)
 exact PyProof.Rows.callWith_type1 (aT (ha pos pins s σ H _ I h) fun us s1 hZ69=>(by obtain ⟨vs,H1,I1,r1,q1⟩:=hZ69; exact hc pins s1 σ H1 vs us Q I1 r1 q1)) he hpl
end
end L2
namespace HT
open PySem PyProof.Rows
noncomputable def aM:List Int→List Int→Bool
 | [],[]=>false
 | [],_ :: _=>true
 | _ :: _,[]=>false
 | x :: xs,y :: ys=>if x=y then aM xs ys else decide (x < y)
theorem nK (x y:Int)(xs ys:List Int):aM (x :: xs) (y :: ys)=if x=y then aM xs ys else decide (x < y):=rfl
theorem jE:aM [] []=false:=rfl
theorem i5 (y:Int)(ys:List Int):aM [] (y :: ys)=true:=rfl
theorem i4 (x:Int)(xs:List Int):aM (x :: xs) []=false:=rfl
theorem yf (A:Around)(s:Shared)(a:Int)(t:Tok)(c:Int)(u:Tok):∃ e,SeqAt.EqAt A s (.int a t) (.int c u) e∧(e=true↔a=c):=
 ⟨(a == c),SeqAt.EqAt.int_int a t c u,by simp⟩
theorem zz (A:Around)(s:Shared)(a:Int)(t:Tok)(c:Int)(u:Tok)(prog:Program)(w:World)(E:Value→Shared→Prop)(Q:Value→Shared→Prop)(h:Q (.bool (decide (a < c))) s) :
  wpAny (model prog w) A (richCompare .Lt (.int a t) (.int c u)) Q E s:=
 (PyProof.Rows.lt_int h:wpAny (model prog w) A (compareOp .Lt (.int a t) (.int c u)) Q E s)
section
open PySem.SeqAt
open PySem.AutoSeq1 (wpAny_loadPart')
open PySem.MeetsSeq PySem.MeetsSeq2 PySem.MeetsSeq3
theorem oU (l b:Addr)(items items2:Array Value)(n n2:Nat)(dd dd2:Option Addr)(sl sl2:Array (Option Value))(ns ms:List Int)(hi:IntsAre items.toList ns)(hj:IntsAre items2.toList ms) :
  Meets (Builtin.«tuple.__lt__» ⟨[.ref l,.ref b],[]⟩)
   (fun _ R s=>s.heap.get? l=some { cls:= .type "tuple",dict:=dd,data:= .seq items n,slots:=sl }∧s.heap.get? b=some { cls:= .type "tuple",dict:=dd2,data:= .seq items2 n2,slots:=sl2 }∧
    R (.ok (.ret (.bool (aM ns ms)))) s):=
 .of_wp fun prog w A R s h=>by
  obtain ⟨hp,g,d,tk,os⟩:=s; obtain ⟨hl,hb,h⟩:=h
  have f2:=AutoSeq1.sub_tuple_tuple
  have z1:items.size=ns.length:=by rw [← hi.length]; simp
  have z2:items2.size=ms.length:=by rw [← hj.length]; simp
  wp_walk using wpAny_loadPart' hl,wpAny_loadPart' hb,wpAny_forIn_list _ (fun rest b s'=>b.1=none∧s'=⟨hp,g,d,tk,os⟩∧∃ (vs ws:List Value) (B z:List Int),rest=vs.zip ws∧
   IntsAre vs B∧IntsAre ws z∧B.length+items2.size=z.length+items.size∧R (.ok (.ret (.bool (aM B z)))) ⟨hp,g,d,tk,os⟩) _
  case turn=>
   rintro ⟨y,x⟩ rest b s' ⟨hb',rfl,vs,ws,B,z,D,hvi,C,v,hR⟩
   cases hvi with
   | nil=>rw [List.zip_nil_left] at D; cases D
   | cons a t hvi'=>
    cases C with
    | nil=>rw [List.zip_nil_right] at D; cases D
    | cons c u hwi'=>
     rw [List.zip_cons_cons] at D
     injection D with hyx hrest
     injection hyx with hy hx
     subst hy hx
     rw [nK] at hR
     simp only [List.length_cons] at v
     obtain ⟨e,he,hiff⟩:=yf A.in1 ⟨hp,g,d,tk,os⟩ a t c u
     refine wpAny_bind (he prog w _ _ ?_)
     cases e with
     | true=>
      rw [if_pos (hiff.mp rfl)] at hR
      wp_walk
      exact (FZ rfl rfl _ _ _ _ hrest hvi' hwi' (by omega) hR)
     | false=>
      rw [if_neg (fun q=>absurd (hiff.mpr q) Bool.false_ne_true)] at hR
      have hri:=zz A.in1 ⟨hp,g,d,tk,os⟩ a t c u prog w
      wp_walk using hri
      exact ⟨_,rfl,by simpa using hR⟩
  case fin=>
   rintro ⟨b1,b2⟩ s' ⟨hb',rfl,vs,ws,B,z,D,hvi,C,v,hR⟩
   simp only at hb'
   subst hb'
   have hv:aM B z=decide (items.size < items2.size):=by
    cases hvi with
    | nil=>
     cases C with
     | nil=>
      simp only [List.length_nil] at v
      rw [jE]
      exact (decide_eq_false (by omega)).symm
     | cons c u hw=>
      simp only [List.length_nil,List.length_cons] at v
      rw [i5]
      exact (decide_eq_true (by omega)).symm
    | cons a t hv=>
     cases C with
     | nil=>
      simp only [List.length_nil,List.length_cons] at v
      rw [i4]
      exact (decide_eq_false (by omega)).symm
     | cons c u hw=>
      rw [List.zip_cons_cons] at D
      cases D
   rw [hv] at hR
   wp_walk
   exact ⟨_,rfl,by simpa [Builtin.Tuple.tupleCompareSizes] using hR⟩
  case h=>
   exact (FZ rfl rfl items.toList items2.toList ns ms rfl hi hj (by omega) h)
end
section
variable{prog:Program}{w:World}{A:Around}{E:Value→Shared→Prop}{s:Shared}
theorem uE {l b:Addr}{items items2:Array Value}{ns ms:List Int}{Q:Value→Shared→Prop}(hl:IsTup s.heap l items)(hb:IsTup s.heap b items2)(hi:IntsAre items.toList ns)(hj:IntsAre items2.toList ms)
  (hu:A.units < cLine) (h:Q (.bool (aM ns ms)) s):wpAny (model prog w) A (compareOp .Lt (.ref l) (.ref b)) Q E s:=by
 refine xN (id hl) fun hS20 ho hc n hd=> ?_; obtain ⟨cls,dd,data,sl⟩:=hS20
 refine xN (id hb) fun hS21 ho2 hc2 n2 hd2=> ?_; obtain ⟨cls2,dd2,data2,sl2⟩:=hS21
 simp only at hc hd hc2 hd2
 subst hc hd hc2 hd2
 exact richCompare_meets_room (op:= .Lt) ⟨_,ho,rfl⟩ ⟨_,ho2,rfl⟩ PySem.F.slot_tuple_lt PySem.F.entry_tuple_lt (PySem.F.args_tuple_lt_2 _ _) (oU l b items items2 n n2 dd dd2 sl sl2 ns ms hi hj)
  ⟨ho,ho2,show Value.bool (aM ns ms)≠Value.notImplemented∧Q (.bool (aM ns ms)) s from ⟨(fun x=>nomatch x),h⟩⟩ hu
noncomputable def cB (n d:Nat):Option Int→Nat
 | none=>d
 | some v=>if v < 0 then (v+(n:Int)).toNat else min v.toNat n
theorem rj (n d k:Nat):cB n d (some (k:Int))=min k n:=by
 show (if (k:Int) < 0 then ((k:Int)+(n:Int)).toNat else min (k:Int).toNat n)=min k n
 rw [if_neg (by omega),Int.toNat_natCast]
theorem ER (n d:Nat)(hd:d≤n)(o:Option Int):cB n d o≤n:=by
 cases o with
 | none=>exact hd
 | some v=>
  show (if v < 0 then (v+(n:Int)).toNat else min v.toNat n)≤n
  by_cases hv:v < 0
  ·rw [if_pos hv]; omega
  ·rw [if_neg hv]; exact Nat.min_le_right _ _
theorem vq (v:Int)(n d:Nat):(if v < 0 then max (v+(n:Int)) 0 else min v (n:Int))=((cB n d (some v):Nat):Int):=by
 show (if v < 0 then max (v+(n:Int)) 0 else min v (n:Int))=(((if v < 0 then (v+(n:Int)).toNat else min v.toNat n):Nat):Int)
 by_cases hv:v < 0
 ·simp only [if_pos hv]; omega
 ·simp only [if_neg hv]; omega
theorem ug (lo hi:Option Int)(n:Nat):Builtin.Slice.sliceAdjust lo hi 1 (n:Int)=(((cB n 0 lo:Nat):Int),((cB n n hi:Nat):Int)):=by
 have h1:¬ ((1:Int) < 0):=by omega
 unfold Builtin.Slice.sliceAdjust
 simp only [h1,if_false]
 refine Prod.ext ?_ ?_
 ·cases lo with
  | none=>rfl
  | some v=>exact vq v n 0
 ·cases hi with
  | none=>rfl
  | some v=>exact vq v n n
theorem uS (i j:Nat):Builtin.Slice.slicePlaces (i:Int) (j:Int) 1=j - i:=by
 unfold Builtin.Slice.slicePlaces
 have h1:(1:Int) > 0:=by omega
 simp only [h1,if_true,Int.ediv_one]
 split <;> omega
theorem ol {v:Value}{o:Option Int}{Q:Option Int→Shared→Prop}(p:IsPart v o)(h:Q o s):wpAny (model prog w) A (Builtin.Slice.slicePartIndex v) Q E s:=by
 cases p with
 | none=>exact slicePart_none h
 | int i t=>exact slicePart_int h
theorem lL {sl:Addr}{vl vu:Value}{lo hi:Option Int}{n:Nat}{Q:Int×Int×Nat→Shared→Prop}(hs:s.heap.IsSliceOf sl vl vu .none)(pl:IsPart vl lo)(pu:IsPart vu hi)
  (h:Q (((cB n 0 lo:Nat):Int),1,cB n n hi - cB n 0 lo) s):wpAny (model prog w) A (Builtin.Slice.sliceApplied (.ref sl) (pure (n:Int))) Q E s:=by
 refine cy (id hs) fun os hos hcs hds=> ?_
 unfold Builtin.Slice.sliceApplied Builtin.Slice.sliceFields
 refine wpAny_bind (wpAny_bind (wpAny_field hos hds (x:=vl) rfl (wpAny_bind (wpAny_field hos hds (x:=vu) rfl (wpAny_bind (wpAny_field hos hds (x:= .none) rfl (wpAny_pure ?_)))))))
 refine wpAny_bind (slicePart_none ?_)
 show wpAny _ _ (if ((1:Int) == 0)=true then _ else _) _ _ s
 rw [if_neg (by decide)]
 refine wpAny_bind (ol pl (wpAny_bind (ol pu (wpAny_bind (wpAny_pure ?_)))))
 show wpAny _ _ (match Builtin.Slice.sliceAdjust lo hi 1 (n:Int) with | (lo,hi)=>pure (lo,(1:Int),Builtin.Slice.slicePlaces lo hi 1)) _ _ s
 rw [ug lo hi n]
 show wpAny _ _ (pure (((cB n 0 lo:Nat):Int),(1:Int),Builtin.Slice.slicePlaces ((cB n 0 lo:Nat):Int) ((cB n n hi:Nat):Int) 1)) _ _ s
 rw [uS]
 exact wpAny_pure h
theorem zm (xs:Array Value)(i k:Nat):((List.range k).filterMap fun (m:Nat)=>xs[((i:Int)+(m:Int) * 1).toNat]?).toArray=((xs.toList.drop i).take k).toArray:=by
 have e:(fun (m:Nat)=>xs[((i:Int)+(m:Int) * 1).toNat]?)=fun m=>xs[i+m]?:=by
  funext m
  have:((i:Int)+(m:Int) * 1).toNat=i+m:=by omega
  rw [this]
 rw [e]
 have:=pick_run xs i k
 rw [List.filterMap_map] at this
 have e2:((fun x=>xs[x]?) ∘ fun x=>i+x)=fun m=>xs[i+m]?:=rfl
 rw [e2] at this
 rw [this]
theorem ku {t sl:Addr}{items:Array Value}{vl vu:Value}{lo hi:Option Int}{Q:Value→Shared→Prop}(ht:IsTup s.heap t items)(hs:s.heap.IsSliceOf sl vl vu .none)(pl:IsPart vl lo)(pu:IsPart vu hi)
  (hw:¬ (cB items.size 0 lo=0∧cB items.size items.size hi=items.size))
  (h:Q (.ref s.heap.objs.size) { s with heap:=s.heap.push { cls:= .type "tuple",data:= .seq ((items.toList.drop (cB items.size 0 lo)).take (cB items.size items.size hi - cB items.size 0 lo)).toArray } })
  (hsz:items.size≤sizeLine):wpAny (model prog w) A (getItem (.ref t) (.ref sl)) Q E s:=by
 have z:sizeOk (.seq ((items.toList.drop (cB items.size 0 lo)).take (cB items.size items.size hi - cB items.size 0 lo)).toArray):=by
  show ((items.toList.drop (cB items.size 0 lo)).take (cB items.size items.size hi - cB items.size 0 lo)).toArray.size≤sizeLine
  rw [List.size_toArray,List.length_take,List.length_drop,Array.length_toList]
  omega
 have hj:cB items.size items.size hi≤items.size:=ER _ _ (Nat.le_refl _) hi
 refine cy (id hs) fun os hos hcs hds=> ?_
 have hTs:s.TypeIs (.ref sl) "slice" :=⟨os,hos,hcs⟩
 unfold getItem
 try with_reducible refine wpAny_holding ?_
 first | refine wpAny_bind (wpAny_pure ?_) | skip
 refine wpAny_bind (wpAny_sequenceKey ht.typeIs (by decide) ?_)
 refine wpAny_bind (wpAny_callSpecial?_slot (name:=Str.ofString "__getitem__") ht.typeIs PyProof.Rows.slot_tuple_getitem
  (wpAny_call_entry PyProof.Rows.slot_tuple_getitem ht.typeIs entry_tuple_getitem ?_ (args_tuple_getitem _ _)))
 show wpAny _ _ (Builtin.Tuple.tupleItemsOf (.ref t) >>= _) _ _ s
 refine wpAny_bind (tupleItemsOf_ ht ?_)
 refine wpAny_bind (wpAny_typeOf hTs ?_)
 rw [if_pos (by decide)]
 refine wpAny_bind (lL hs pl pu ?_)
 have hno:¬ ((((cB items.size 0 lo:Nat):Int) == 0 && (1:Int) == 1 && (cB items.size items.size hi - cB items.size 0 lo) == items.size)=true):=by
  intro q
  rw [Bool.and_eq_true,Bool.and_eq_true] at q
  have q1:((cB items.size 0 lo:Nat):Int)=0:=eq_of_beq q.1.1
  have q2:cB items.size items.size hi - cB items.size 0 lo=items.size:=eq_of_beq q.2
  exact hw ⟨by omega,by omega⟩
 show wpAny _ _ (if (((cB items.size 0 lo:Nat):Int) == 0 && (1:Int) == 1 && (cB items.size items.size hi - cB items.size 0 lo) == items.size)=true then _ else _) _ _ s
 rw [if_neg hno,zm]
 first
  | exact wpAny_bind (m:=Builtin.Tuple.tupleExact _) (wpAny_newObj_type (wpAny_pure ⟨_,rfl,wpAny_pure h⟩) z)
  | exact wpAny_bind (m:=Builtin.Tuple.tupleExact _) (wpAny_newObj_type (wpAny_bind (wpAny_pure (wpAny_pure ⟨_,rfl,wpAny_pure h⟩))) z)
  | exact wpAny_bind (wpAny_bind (m:=Builtin.Tuple.tupleExact _) (wpAny_newObj_type (wpAny_pure (wpAny_pure ⟨_,rfl,wpAny_pure h⟩)) z))
  | exact wpAny_bind (wpAny_bind (m:=Builtin.Tuple.tupleExact _) (wpAny_newObj_type (wpAny_pure ⟨_,rfl,wpAny_pure h⟩) z))
end
end HT
namespace L2
open PySem PySem.Spec PyProof.Rows
noncomputable abbrev TO:=St→Hp→(Option Int→Hp→Prop)→Prop
noncomputable def PO (X:Cx)(e:Option Expr)(t:TO):Prop:=
 ∀ (pins:List (Addr×Obj)) (s:Shared) (σ:St) (H:Hp) (Q:Option Int→Hp→Prop),Inv X pins σ H s→t σ H Q→
  wpAny (model X.prog X.w) X.A (evalPart e X.env) (fun u s'=>∃ o H',Inv X pins σ H' s'∧IsPart u o∧Q o H') X.xe s
noncomputable def Cd:TO:=fun _ H Q=>Q none H
noncomputable def GY (t:TE):TO:=fun σ H Q=>t σ H fun x H1=>∃ i,x= .int i∧Q (some i) H1
theorem fu {ns:List Int}:∀ {us:List Value},Vals (ns.map V.int) us→IntsAre us ns:=by
 induction ns with
 | nil=>intro us r; rw [List.map_nil] at r; cases r; exact .nil
 | cons n ns ih=>
  intro us r
  rw [List.map_cons] at r
  cases r with
  | cons r1 r2=>
   obtain ⟨t,e⟩:=r1
   subst e
   exact .cons n t (ih r2)
section
variable{X:Cx}{e:Expr}{te:TE}{lo hi:Option Expr}{tl th:TO}{pos p2:Pos}
theorem BL:PO X none Cd:=by
 intro pins s σ H Q I h
 rw [evalPart_none]
 exact wpAny_pure (dJ none H I .none h)
theorem BM (h:PE X e te):PO X (some e) (GY te):=by
 intro pins s σ H Q I hw
 rw [evalPart_some]
 refine aT (h pins s σ H _ I hw) fun u s1 hZ70=> ?_
 obtain ⟨x,H1,I1,r1,q1⟩:=hZ70
 obtain ⟨i,rfl,q⟩:=q1
 obtain ⟨t,rfl⟩:=r1
 exact (dJ (some i) H1 I1 (.int i t) q)
noncomputable def SlR (X:Cx)(r:V→Option Int→Option Int→Hp→VK→Prop):Prop:=
 ∀ (pins:List (Addr×Obj)) (s:Shared) (σ:St) (H:Hp) (x:V) (v vl vu:Value) (lo hi:Option Int) (sl:Addr) (Q:VK),Inv X pins σ H s→RelV x v→s.heap.IsSliceOf sl vl vu .none→IsPart vl lo→IsPart vu hi→r x lo hi H Q→
  ∃ T id,typeLookup (.type T) "__getitem__" =pure (some (.builtin id))∧s.TypeIs v T∧wpAny (model X.prog X.w) X.A (getItem v (.ref sl)) (EP X pins σ Q) X.xe s
theorem SlR.or {r r':V→Option Int→Option Int→Hp→VK→Prop}(h:SlR X r)(h':SlR X r'):SlR X (fun x lo hi H Q=>r x lo hi H Q∨r' x lo hi H Q):=by
 intro pins s σ H x v vl vu lo hi sl Q I rx hs pl pu q
 rcases q with q | q
 ·exact h pins s σ H x v vl vu lo hi sl Q I rx hs pl pu q
 ·exact h' pins s σ H x v vl vu lo hi sl Q I rx hs pl pu q
noncomputable def Iu (r:V→Option Int→Option Int→Hp→VK→Prop)(te:TE)(tl th:TO):TE:=fun σ H Q=>te σ H fun x H1=>tl σ H1 fun l H2=>th σ H2 fun u H3=>r x l u H3 Q
theorem zk {r:V→Option Int→Option Int→Hp→VK→Prop}(hr:SlR X r)(he:PE X e te)(hl:PO X lo tl)(hu:PO X hi th):PE X (.Subscript e (.Slice lo hi none p2) pos) (Iu r te tl th):=by
 intro o s σ H Q I h
 refine Subscript_ (aT (he o s σ H _ I h) fun v s1 hZ71=> ?_)
 obtain ⟨x,H1,I1,r1,q1⟩:=hZ71
 refine wpAny_Slice (aT (hl o s1 σ H1 _ I1 q1) fun vl s2 ⟨l,H2,I2,pl,q2⟩=>aT (hu o s2 σ H2 _ I2 q2) fun vu B hZ73=> ?_)
 obtain ⟨u,H3,I3,pu,q3⟩:=hZ73
 rw [evalPart_none]
 refine wpAny_pure ?_
 have I4:Inv X o σ H3 { B with heap:=B.heap.push { cls:= .type "slice",data:= .fields #[vl,vu,.none] } }:=I3.kept (t':=B.toks) fun b ob q=>Heap.get?_push_of_some _ q
 refine bA (hr o { B with heap:=B.heap.push { cls:= .type "slice",data:= .fields #[vl,vu,.none] } } σ H3 x v vl vu l u B.heap.objs.size Q I4 r1 (Heap.IsSliceOf.new ..) pl pu q3) fun T id hT ht hg=> ?_
 show wpAny (model X.prog X.w) X.A (subscriptTail e (.Slice lo hi none p2) v (.ref B.heap.objs.size)) (EP X o σ Q) X.xe { B with heap:=B.heap.push { cls:= .type "slice",data:= .fields #[vl,vu,.none] } }
 exact tail_any (ops:=[.ref B.heap.objs.size,v]) ht hT hg (by with_unfolding_all rfl)
noncomputable def r7 (xs:List V)(lo hi:Option Int):List V:=(xs.drop (HT.cB xs.length 0 lo)).take (HT.cB xs.length xs.length hi - HT.cB xs.length 0 lo)
theorem lQ (xs:List V)(lo hi:Option Int):(r7 xs lo hi).length≤xs.length:=by
 unfold r7
 rw [List.length_take,List.length_drop]
 omega
noncomputable def HU (K:W.Frag):V→Option Int→Option Int→Hp→VK→Prop:=fun x lo hi H Q=>∃ a xs,x= .ref a∧mE K H a xs∧
 ¬ (HT.cB xs.length 0 lo=0∧HT.cB xs.length xs.length hi=xs.length)∧∀ p,H p=none→Q (.ref p) (br H p (.tup (r7 xs lo hi)))
theorem ES:SlR X (HU X.K):=by
 intro pins s σ H x v vl vu lo hi sl Q I rx hs pl pu h
 refine oC (h) fun a xs hS22 hx hw q=> ?_; subst hS22
 cases rx
 refine cy (I.tuple hx) fun its r ht hz=> ?_
 have u:its.toArray.size=xs.length:=by rw [List.size_toArray]; exact r.length.symm
 refine (dJ "tuple" _ PyProof.Rows.slot_tuple_getitem.lookup ht.typeIs ?_)
 refine HT.ku ht hs pl pu (by rw [u]; exact hw) ?_ (by rw [u]; exact hz)
 rw [u]
 refine ⟨.ref s.heap.objs.size,_,I.laid (t':=s.toks) (o:= .tup (r7 xs lo hi)) (fun b ob q=>Heap.get?_push_of_some _ q) (Nat.le_refl _) ?_,rfl,q _ (I.hok.fresh (Nat.le_refl _))⟩
 exact (oG (Nat.le_trans (lQ xs lo hi) hz) _ ((r.drop (HT.cB xs.length 0 lo)).take (HT.cB xs.length xs.length hi - HT.cB xs.length 0 lo)) (IsTup.new _ _))
end
noncomputable def sJ (n:Nat)(i:Int):Option Nat:=if 0≤i then (if i < n then some i.toNat else none) else if -(n:Int)≤i then some (i+n).toNat else none
noncomputable def atI {α:Type}(xs:List α)(i:Int):Option α:=(sJ xs.length i).bind fun j=>xs[j]?
theorem qO {n:Nat}{i:Int}{j:Nat}(h:sJ n i=some j):seqIndex? i n=some j∧j < n∧ -(n:Int)≤i∧i < n:=by
 unfold sJ at h
 by_cases h0:0≤i
 ·rw [if_pos h0] at h
  by_cases B:i < n
  ·rw [if_pos B] at h
   have e:i.toNat=j:=Option.some.inj h
   exact (mj (by rw [seqIndex_of h0 B,e]) (by omega) (by omega) B)
  ·rw [if_neg B] at h; cases h
 ·rw [if_neg h0] at h
  by_cases B: -(n:Int)≤i
  ·rw [if_pos B] at h
   have e:(i+n).toNat=j:=Option.some.inj h
   exact (mj (by rw [seqIndex_neg (by omega) B,e]) (by omega) B (by omega))
  ·rw [if_neg B] at h; cases h
theorem qo {α:Type}{xs:List α}{i:Int}{v:α}(h:atI xs i=some v):∃ j,seqIndex? i xs.length=some j∧xs[j]?=some v∧j < xs.length∧ -(xs.length:Int)≤i∧i < xs.length:=by
 unfold atI at h
 cases e:sJ xs.length i with
 | none=>rw [e] at h; cases h
 | some j=>
  rw [e] at h
  refine lP (qO e) fun h1 h2 h3 h4=> ?_
  exact (Ba j h1 h h2 h3 h4)
theorem vn {α:Type}{xs:List α}{j:Nat}{v:α}(h:xs[j]?=some v):atI xs (j:Int)=some v:=by
 have hj:j < xs.length:=(d7 h).1
 have e:sJ xs.length (j:Int)=some j:=by
  unfold sJ
  rw [if_pos (by omega),if_pos (by omega)]; simp
 unfold atI; rw [e]; exact h
theorem rV {α:Type}(xs:List α)(v:α):atI (xs ++ [v]) (-1)=some v:=by
 have hl:(xs ++ [v]).length=xs.length+1:=by simp
 have e:sJ (xs ++ [v]).length (-1)=some xs.length:=by
  unfold sJ
  rw [hl,if_neg (by decide),if_pos (by omega)]
  congr 1
  omega
 unfold atI
 rw [e]
 show (xs ++ [v])[xs.length]?=some v
 simp
noncomputable def qj (b:Expr):Prop:=∀ o i,subscripted b false o i=operate [o,i] (getItem o i)
noncomputable def IxR (X:Cx)(r:R2):Prop:=
 ∀ (value slice:Expr) (pins:List (Addr×Obj)) (s:Shared) (σ:St) (H:Hp) (x y:V) (v u:Value) (Q:VK),Inv X pins σ H s→RelV x v→RelV y u→r x y H Q→
  subscripted slice false v u=operate [v,u] (getItem v u)→wpAny (model X.prog X.w) X.A (subscriptTail value slice v u) (EP X pins σ Q) X.xe s
noncomputable def Fp (X:Cx)(id:String)(r:V→List V→Hp→VK→Prop):Prop:=
 ∀ (pins:List (Addr×Obj)) (s:Shared) (σ:St) (H:Hp) (x:V) (xs:List V) (v:Value) (us:List Value) (Q:VK),Inv X pins σ H s→RelV x v→Vals xs us→r x xs H Q→
  wpAny (model X.prog X.w) X.A (call (.builtin id) (v :: us)) (EP X pins σ Q) X.xe s
section
variable{X:Cx}{a b:Expr}{ta tb:TE}{pos:Pos}
theorem IxR.or {r r':R2}(h:IxR X r)(h':IxR X r'):IxR X (fun x y H Q=>r x y H Q∨r' x y H Q):=by
 intro D C pins s σ H x y v u Q I rx ry q hs
 rcases q with q | q
 ·exact h D C pins s σ H x y v u Q I rx ry q hs
 ·exact h' D C pins s σ H x y v u Q I rx ry q hs
theorem CC {r:R2}(hr:IxR X r)(ha:PE X a ta)(hb:PE X b tb)(hs:qj b):PE X (.Subscript a b pos) (Ik r ta tb):=by
 intro pins s σ H Q I h
 exact Subscript_ (HA ha hb I h fun v u s2 x y H2 I2 rx ry q=>hr a b pins s2 σ H2 x y v u Q I2 rx ry q (hs _ _))
noncomputable def GQ (K:W.Frag):R2:=fun x y H Q=>∃ p xs i v,x= .ref p∧y= .int i∧gu K H p xs∧atI xs i=some v∧Q v H
noncomputable def GS (K:W.Frag):R2:=fun x y H Q=>∃ p xs i v,x= .ref p∧y= .int i∧mE K H p xs∧atI xs i=some v∧Q v H
noncomputable def GR:R2:=fun x y H Q=>∃ z i c,x= .str z∧y= .int i∧z.length≤sizeLine∧atI z.cps.toList i=some c∧Q (.str ⟨#[c]⟩) H
theorem ix_list:IxR X (GQ X.K):=by
 intro value slice pins s σ H x y v u Q I rx ry h hs
 refine Cg (h) fun p xs i z hS23 hS24 hq he q=> ?_; subst hS23; subst hS24
 cases rx
 obtain ⟨t,rfl⟩:=ry
 refine cy (I.list hq) fun its r pl hz=> ?_
 refine t9 (qo he) fun j h1 h2 h3 h4 h5=> ?_
 obtain ⟨w,ew,rw'⟩:=r.get h2
 have hl:=r.length
 have hn:=nN
 have fin:EP X pins σ Q w s:=⟨z,H,I,rw',q⟩
 by_cases h0:0≤i
 ·have hj:i.toNat=j:=by
   rw [seqIndex_of h0 h5] at h1
   exact Option.some.inj h1
  exact item_listR pl.isList h0 (by omega) (by rw [hj]; simpa using ew) fin hs
 ·have hj:(i+(its.toArray.size:Int)).toNat=j:=by
   rw [seqIndex_neg (by omega) h4] at h1
   rw [List.size_toArray,← hl]
   exact Option.some.inj h1
  exact subscriptTail_builtinR (x:=w) pl.isList.typeIs slot_list_getitem.lookup
   (wpAny_getItem_list_neg (Q:=fun r s'=>r=w∧EP X pins σ Q r s') pl.isList (by omega) (by rw [List.size_toArray] <;> omega) (by omega) (by rw [hj]; simpa using ew) ⟨rfl,fin⟩) hs
theorem ix_tup:IxR X (GS X.K):=by
 intro value slice pins s σ H x y v u Q I rx ry h hs
 refine Cg (h) fun p xs i z hS25 hS26 hq he q=> ?_; subst hS25; subst hS26
 cases rx
 obtain ⟨t,rfl⟩:=ry
 refine cy (I.tuple hq) fun its r pl hz=> ?_
 refine t9 (qo he) fun j h1 h2 h3 h4 h5=> ?_
 obtain ⟨w,ew,rw'⟩:=r.get h2
 have hl:=r.length
 have hn:=nN
 have fin:EP X pins σ Q w s:=⟨z,H,I,rw',q⟩
 exact subscriptTail_builtinR (x:=w) pl.typeIs slot_tuple_getitem.lookup
  (getItem_tuple (j:=j) (Q:=fun r s'=>r=w∧EP X pins σ Q r s') pl (by omega) (by omega) (by rw [List.size_toArray,← hl]; exact h1) (by simpa using ew) ⟨rfl,fin⟩) hs
theorem DW:IxR X GR:=by
 intro value slice pins s σ H x y v u Q I rx ry h hs
 refine iN (h) fun z i c hS27 hS28 hz he q=> ?_; subst hS27; subst hS28
 obtain ⟨t,rfl⟩:=rx
 obtain ⟨t',rfl⟩:=ry
 refine t9 (qo he) fun j h1 h2 h3 h4 h5=> ?_
 have hl:z.cps.toList.length=z.length:=by simp [Str.length]
 rw [hl] at h1 h4 h5
 have hn:=nN
 exact tail_any (typeIs_str s z t) slot_str_getitem.lookup (getItem_str (c:=c) (by
  have e1:decide (i < -(2 ^ 63:Int))=false:=decide_eq_false (by omega)
  have e2:decide (i ≥ 2 ^ 63)=false:=decide_eq_false (by omega)
  rw [e1,e2,Bool.or_false]) (by rw [h1]; simpa using h2) ⟨.str ⟨#[c]⟩,H,I.tok _,⟨_,rfl⟩,q⟩) hs
noncomputable def Ir (K:W.Frag):R2:=fun x y H Q=>GQ K x y H Q∨GS K x y H Q∨GR x y H Q
theorem DV:IxR X (Ir X.K):=ix_list.or (ix_tup.or DW)
theorem uH (its:List Value)(n j:Nat)(u:Value):Obj.mapSeq (·.setIfInBounds j u) { cls:= .type "list",data:= .seq its.toArray n }={ cls:= .type "list",data:= .seq (its.set j u).toArray n }:=by
 simp [Obj.mapSeq]
theorem Inv.lst {pins:List (Addr×Obj)}{σ:St}{H:Hp}{s:Shared}{p:Addr}{xs:List V}(I:Inv X pins σ H s)(h:H p=some (.lst xs)) :
  ∃ (its:List Value) (n:Nat),Vals xs its∧s.heap.get? p=some { cls:= .type "list",data:= .seq its.toArray n }∧xs.length≤sizeLine:=by
 refine xM (I.hok p _ h) fun z its n r e=> ?_
 exact (dJ its n r e z)
theorem Inv.lstUpd {pins:List (Addr×Obj)}{σ:St}{H:Hp}{s:Shared}{p:Addr}{xs ys:List V}{its its':List Value}{n n':Nat}{f:Obj→Obj}(I:Inv X pins σ H s)(h:H p=some (.lst xs))
  (ho:s.heap.get? p=some { cls:= .type "list",data:= .seq its.toArray n }) (hf:f { cls:= .type "list",data:= .seq its.toArray n }={ cls:= .type "list",data:= .seq its'.toArray n' }) (r:Vals ys its') (hz:ys.length≤sizeLine) (t:Nat) :
  Inv X pins σ (br H p (.lst ys)) { s with heap:=s.heap.update p f,toks:=t }:=by
 have e:(s.heap.update p f).get? p=some { cls:= .type "list",data:= .seq its'.toArray n' }:=by
  rw [Heap.get?_update_self f ho (by rw [hf] <;> rfl),hf]
 refine I.write (x:=p) (e:=p) (by rw [h]; trivial) (.inl rfl) (fun b u hb q=>(Heap.get?_update_other _ _ (Ne.symm hb)).trans q) ⟨_,e⟩ ?_
 exact (nD hz its' n' r e)
noncomputable def GT:V→V→V→Hp→(Hp→Prop)→Prop:=fun o i v H Q=>∃ p xs k j,o= .ref p∧i= .int k∧H p=some (.lst xs)∧sJ xs.length k=some j∧Q (br H p (.lst (xs.set j v)))
theorem zI:Fu X GT:=by
 intro pins s σ H o i v ov iv u Q I ro ri rv h
 refine Cg (h) fun p xs k j hS29 hS30 hp hj q=> ?_; subst hS29; subst hS30
 cases ro
 obtain ⟨t,rfl⟩:=ri
 refine bA (I.lst hp) fun its n r ho hz=> ?_
 refine lP (qO hj) fun h1 h2 h3 h4=> ?_
 have hl:=r.length
 have hn:=nN
 have I':Inv X pins σ (br H p (.lst (xs.set j v))) { s with heap:=s.heap.update p (Obj.mapSeq (·.setIfInBounds j u)) }:=
  I.lstUpd hp ho (uH its n j u) (r.set rv j) (by rw [List.length_set]; exact hz) s.toks
 by_cases h0:0≤k
 ·have hk:k.toNat=j:=by
   rw [seqIndex_of h0 h4] at h1
   exact Option.some.inj h1
  exact W.ki_setAt ho h0 (by omega) (by rw [List.size_toArray,← hl]; exact h4) (by rw [hk]; exact ⟨_,I',q⟩)
 ·have hk:(k+(its.toArray.size:Int)).toNat=j:=by
   rw [seqIndex_neg (by omega) h3] at h1
   rw [List.size_toArray,← hl]
   exact Option.some.inj h1
  exact W.ki_setBack ho (by omega) (by rw [List.size_toArray,← hl]; exact h3) (by omega) (by rw [hk]; exact ⟨_,I',q⟩)
theorem rz (lo hi:Option Int)(n:Nat):(sliceBounds lo hi none n).1=((HT.cB n 0 lo:Nat):Int)∧(sliceBounds lo hi none n).2.1=((HT.cB n n hi:Nat):Int)∧(sliceBounds lo hi none n).2.2=1:=by
 refine ⟨?_,?_,rfl⟩
 ·cases lo with
  | none=>simp [sliceBounds,HT.cB]
  | some i=>
   simp only [sliceBounds,HT.cB,Option.getD_none,show (1:Int) > 0 by decide,if_true]
   by_cases h:i < 0
   ·simp only [h,if_true] <;> omega
   ·simp only [h,if_false] <;> omega
 ·cases hi with
  | none=>simp [sliceBounds,HT.cB]
  | some i=>
   simp only [sliceBounds,HT.cB,Option.getD_none,show (1:Int) > 0 by decide,if_true]
   by_cases h:i < 0
   ·simp only [h,if_true] <;> omega
   ·simp only [h,if_false] <;> omega
theorem oT (its:List Value)(lo hi:Option Int):slicePick its.toArray lo hi none=((its.drop (HT.cB its.length 0 lo)).take (HT.cB its.length its.length hi - HT.cB its.length 0 lo)).toArray:=by
 obtain ⟨h1,h2,h3⟩:=rz lo hi its.toArray.size
 unfold slicePick
 rw [h1,h2,h3]
 simp only [sliceRange_one,pick_run,List.size_toArray] <;> rfl
noncomputable def HS (K:W.Frag):V→Option Int→Option Int→Hp→VK→Prop:=fun x lo hi H Q=>∃ a xs,x= .ref a∧gu K H a xs∧∀ p,H p=none→Q (.ref p) (br H p (.lst (r7 xs lo hi)))
theorem sl_list:SlR X (HS X.K):=by
 intro pins s σ H x v vl vu lo hi sl Q I rx hs pl pu h
 refine bA (h) fun a xs hS31 hx q=> ?_; subst hS31
 cases rx
 refine cy (I.list hx) fun its r ht hz=> ?_
 have hlen:=r.length
 refine (dJ "list" _ slot_list_getitem.lookup ht.isList.typeIs ?_)
 refine wpAny_getItem_list_slice ht.isList hs pl pu .none (by simp) ?_ (by rw [List.size_toArray] <;> omega)
 rw [oT,← hlen]
 refine ⟨.ref s.heap.objs.size,_,I.laid (t':=s.toks) (o:= .lst (r7 xs lo hi)) (fun b ob q=>Heap.get?_push_of_some _ q) (Nat.le_refl _) ?_,rfl,q _ (I.hok.fresh (Nat.le_refl _))⟩
 exact (nD (Nat.le_trans (lQ xs lo hi) hz) _ 0 ((r.drop (HT.cB xs.length 0 lo)).take (HT.cB xs.length xs.length hi - HT.cB xs.length 0 lo)) (Heap.get?_push_size _ rfl))
theorem qp:dI X (.builtin "len") (fun xs H Q=>∃ p ys,xs=[.ref p]∧(gu X.K H p ys∨mE X.K H p ys)∧Q (.int ys.length) H):=by
 intro pins s σ H xs us Q I r h
 refine bA (h) fun p ys hS32 hq q=> ?_; subst hS32
 obtain ⟨u,rfl,rx⟩:=je r
 cases rx
 have hn:=nN
 rcases hq with hq | hq
 ·refine cy (I.list hq) fun its r' pl hz=> ?_
  have v:=r'.length
  exact Calls.call_len_list pl.isList (by simp only [List.size_toArray] <;> omega) ⟨.int ys.length,H,I.tok _,⟨s.toks+1,by rw [List.size_toArray,v]⟩,q⟩
 ·refine cy (I.tuple hq) fun its r' pl hz=> ?_
  have v:=r'.length
  exact len_tuple pl (by simp only [List.size_toArray] <;> omega) ⟨.int ys.length,H,I.tok _,⟨s.toks+1,by rw [List.size_toArray,v]⟩,q⟩
theorem j8:dI X (.type "list") (fun xs H Q=>∃ p ys,xs=[.ref p]∧(gu X.K H p ys∨mE X.K H p ys)∧∀ l,H l=none→Q (.ref l) (br H l (.lst ys))):=by
 intro pins s σ H xs us Q I r h
 refine bA (h) fun p ys hS33 hq q=> ?_; subst hS33
 obtain ⟨u,rfl,rx⟩:=je r
 cases rx
 have fin:∀ (E:List Value),Vals ys E→ys.length≤sizeLine→∀ (F:Heap) (c':Nat),(∀ b o',s.heap.get? b=some o'→F.get? b=some o')→
   F.get? s.heap.objs.size=some { cls:= .type "list",dict:=none,data:= .seq E.toArray c',slots:= #[] }→EP X pins σ Q (.ref s.heap.objs.size) { s with heap:=F }:=fun E r' hz F c' kp e=>
  ⟨.ref s.heap.objs.size,_,I.laid (t':=s.toks) kp (Nat.le_refl _) (show ObjOk X.prog X.w _ F _ (.lst ys) from (nD hz E c' r' e)),rfl,q _ (I.hok.fresh (Nat.le_refl _))⟩
 rcases hq with hq | hq
 ·refine cy (I.list hq) fun E r' pl hz=> ?_
  have hlen:=r'.length
  refine xN (pl.isList) fun o ho hc n hd=> ?_
  exact call_list_seq p (.inl rfl) ho hc hd (fun F c' kp e=>fin E r' hz F c' kp e) (by simp only [List.size_toArray] <;> omega)
 ·refine cy (I.tuple hq) fun E r' pl hz=> ?_
  have hlen:=r'.length
  refine xN (pl) fun o ho hc n hd=> ?_
  exact call_list_seq p (.inr rfl) ho hc hd (fun F c' kp e=>fin E r' hz F c' kp e) (by simp only [List.size_toArray] <;> omega)
theorem oE:dI X (.type "tuple") (fun xs H Q=>∃ p ys,xs=[.ref p]∧((gu X.K H p ys∧∀ l,H l=none→Q (.ref l) (br H l (.tup ys)))∨(mE X.K H p ys∧Q (.ref p) H))):=by
 intro pins s σ H xs us Q I r h
 obtain ⟨p,ys,rfl,h⟩:=h
 obtain ⟨u,rfl,rx⟩:=je r
 cases rx
 rcases h with ⟨hq,q⟩ | ⟨hq,q⟩
 ·obtain ⟨its,r',pl,hz⟩:=I.list hq
  have hlen:=r'.length
  refine call_tuple_list pl.isList (fun h' kp=> ?_) (by simp only [List.size_toArray] <;> omega)
  have I1:Inv X pins σ H { s with heap:=h' }:=I.kept (t':=s.toks) kp
  have I2:Inv X pins σ (br H h'.objs.size (.tup ys)) { s with heap:=h'.push { cls:= .type "tuple",data:= .seq its.toArray } }:=
   I1.laid (t':=s.toks) (fun b o e=>Heap.get?_push_of_some _ e) (Nat.le_refl _) (show ObjOk X.prog X.w _ _ _ (.tup ys) from ⟨hz,its,r',IsTup.new _ _⟩)
  exact ⟨.ref h'.objs.size,_,I2,rfl,q _ (I1.hok.fresh (Nat.le_refl _))⟩
 ·obtain ⟨its,r',pl,hz⟩:=I.tuple hq
  exact call_tuple_same pl ⟨.ref p,H,I,rfl,q⟩
noncomputable def Il (K:W.Frag)(T:String)(x:V)(H:Hp):Prop:=match x with
 | .str _=>T= "str"
 | .int _=>T= "int"
 | .ref p=>(T= "list" ∧∃ xs,gu K H p xs)∨(T= "tuple" ∧∃ o,K.lookup p=some o∧o.cls= .type "tuple" ∧o.dict=none)∨
   (T= "dict" ∧((∃ kvs,H p=some (.dK kvs))∨∃ kvs,H p=some (.dT kvs)))∨(T= "set" ∧∃ S n,H p=some (.set S n))
 | _=>False
theorem EZ {pins:List (Addr×Obj)}{σ:St}{H:Hp}{s:Shared}{T:String}{x:V}{v:Value}(I:Inv X pins σ H s)(r:RelV x v)(ty:Il X.K T x H) :
  s.TypeIs v T∧∀ a,v= .ref a→∃ ob,s.heap.get? a=some ob∧ob.dict=none:=by
 cases x with
 | str z=>
  obtain ⟨t,rfl⟩:=r
  cases (show T= "str" from ty)
  exact ⟨typeIs_str s z t,fun _ e=>nomatch e⟩
 | int i=>
  obtain ⟨t,rfl⟩:=r
  cases (show T= "int" from ty)
  exact ⟨typeIs_int s i t,fun _ e=>nomatch e⟩
 | ref p=>
  cases r
  rcases ty with ⟨rfl,xs,hq⟩ | ⟨rfl,o,G,hc,hd⟩ | ⟨rfl,G⟩ | ⟨rfl,S,n,G⟩
  ·refine cy (I.list hq) fun its _ pl _=> ?_
   refine ⟨pl.isList.typeIs,fun a e=> ?_⟩
   cases e
   refine oC (pl) fun o n e c hd _=> ?_
   exact ⟨o,e,hd⟩
  ·refine ⟨⟨o,I.kIn p o G,hc⟩,fun a e=> ?_⟩
   cases e
   exact ⟨o,I.kIn _ o G,hd⟩
  ·have z:∃ o,s.heap.get? p=some o∧o.ExactDict:=by
    rcases G with ⟨kvs,G⟩ | ⟨kvs,G⟩
    ·refine Ha (I.hok p _ G) fun _ _ _ _ o _ _ e J _=> ?_
     exact ⟨o,e,J⟩
    ·refine Ha (I.hok p _ G) fun _ _ _ _ o _ _ e J _=> ?_
     exact ⟨o,e,J⟩
   obtain ⟨o,e,J⟩:=z
   refine ⟨⟨o,e,J.1⟩,fun a e2=> ?_⟩
   cases e2
   exact ⟨o,e,J.2.1⟩
  ·obtain ⟨o,_,_,_,e,J,_⟩:=I.hok p _ G
   refine ⟨⟨o,e,J.1⟩,fun a e2=> ?_⟩
   cases e2
   exact ⟨o,e,J.2.1⟩
 | _=>exact False.elim ty
noncomputable def Is (K:W.Frag)(T:String)(r:V→List V→Hp→VK→Prop)(to:TE)(t:TA):TE:=fun σ H Q=>to σ H fun x H1=>Il K T x H1∧t σ H1 fun xs H2=>r x xs H2 Q
variable{o e:Expr}{es:List Expr}{to:TE}{t:TA}{name:Str}{apos cpos:Pos}{T id:String}{r:V→List V→Hp→VK→Prop}
theorem vY (pa:PlainAttrs T)(slot:Slot T name id)(hty:typeOf (.builtin id)=pure (.type "method_descriptor"))(hm:Fp X id r)(ho:PE X o to)(ha:PA X (e :: es) t)
  (hbase:attributeBase o name X.env (eval o X.env)=eval o X.env:=by rfl)
  (hfew:((backTo cpos (starEach (e :: es) X.env)).all (fun x=> !x.1) && (backToKw cpos (keywordEach [] X.env)).all (fun x=>x.1.isSome)
   && decide ((e :: es).length+([]:List Keyword).length+(if ([]:List Keyword).isEmpty then 0 else 1) < 30))=true:=by rfl)
  (hline:(apos.endLine == cpos.line)=true:=by rfl) (hs:starEach (e :: es) X.env=(false,eval e X.env) :: starEach es X.env:=by rfl) (hplain:(backTo cpos (starEach es X.env)).any (·.1)=false:=by rfl) :
  PE X (.Call (.Attribute o name apos) (e :: es) [] cpos) (Is X.K T r to t):=by
 intro p s σ H Q I h
 refine wpAny_Call_method_late hbase hfew hline rfl (aT (ho p s σ H _ I h) fun v s1 hZ74=> ?_)
 obtain ⟨x,H1,I1,r1,ty,q1⟩:=hZ74
 obtain ⟨h1,h2⟩:=EZ I1 r1 ty
 refine (F_ T id pa slot hty h1 h2 ?_)
 have hA:=ha cpos p s1 σ H1 _ I1 q1
 rw [hs] at hA ⊢
 refine Calls.callWith_builtin (by show (false || (backTo cpos (starEach es X.env)).any (·.1))=false; rw [hplain] <;> rfl) (Calls.evalArgs_plain ?_)
 exact aT hA fun us s2 hZ75=>(by obtain ⟨vs,H2,I2,r2,q2⟩:=hZ75; exact hm p s2 σ H2 x vs v us Q I2 r1 r2 q2)
end
noncomputable def Ih (X:Cx)(id:String)(r:V→List V→Hp→VK→Prop):Prop:=
 ∀ (pins:List (Addr×Obj)) (s:Shared) (σ:St) (H:Hp) (x:V) (xs:List V) (v:Value) (us:List Value) (Q:VK),Inv X pins σ H s→RelV x v→Vals xs us→r x xs H Q→
  wpAny (model X.prog X.w) X.A (call (.builtin id) (v :: us)) (EP X pins σ Q) X.xe s
theorem Vals.one:∀ {x:V} {us:List Value},Vals [x] us→∃ u,us=[u]∧RelV x u
 | _,_,.cons r .nil=>⟨_,rfl,r⟩
theorem Vals.rep {xs:List V}{us:List Value}(h:Vals xs us):∀ k:Nat,Vals (List.replicate k xs).flatten (List.replicate k us).flatten
 | 0=> .nil
 | k+1=>by
  rw [List.replicate_succ,List.replicate_succ,List.flatten_cons,List.flatten_cons]
  exact Vals.append h (Vals.rep h k)
theorem pB (its:List Value):∀ (k:Nat) (acc:List Value),
  List.foldl (fun x1 x2=>x1 ++ x2) acc.toArray (List.replicate k its.toArray)=(acc ++ (List.replicate k its).flatten).toArray
 | 0,acc=>by simp
 | k+1,acc=>by
  have e:acc.toArray ++ its.toArray=(acc ++ its).toArray:=by simp
  have e2:(acc ++ its) ++ (List.replicate k its).flatten=acc ++ (List.replicate (k+1) its).flatten:=by
   rw [List.replicate_succ,List.flatten_cons,List.append_assoc]
  rw [← e2,← pB its k (acc ++ its),← e,List.replicate_succ,List.foldl_cons]
section
variable{X:Cx}{pins:List (Addr×Obj)}{σ:St}{H:Hp}{s:Shared}{l b:Addr}{xs ys zs:List V}
theorem Inv.lset {its its':List Value}{n:Nat}{f:Array Value→Array Value}{t':Nat}(I:Inv X pins σ H s)(hH:H l=some (.lst xs))
  (e:s.heap.get? l=some { cls:= .type "list",data:= .seq its.toArray n }) (hf:f its.toArray=its'.toArray) (hv:Vals ys its') (hz:ys.length≤sizeLine) :
  Inv X pins σ (br H l (.lst ys)) { s with heap:=s.heap.update l (Obj.mapSeq f),toks:=t' }:=by
 have q:=PySem.IsL.update e f
 rw [hf] at q
 refine I.write (x:=l) (e:=l) (by rw [hH]; exact trivial) (.inl rfl) (fun b' u hb hu=>(Heap.get?_update_other s.heap (Obj.mapSeq f) (Ne.symm hb)).trans hu) ⟨_,q⟩ ?_
 exact (nD hz its' _ hv q)
theorem Inv.lnew {its:List Value}{t':Nat}(I:Inv X pins σ H s)(hv:Vals ys its)(hz:ys.length≤sizeLine) :
  Inv X pins σ (br H s.heap.objs.size (.lst ys)) { s with heap:=s.heap.push { cls:= .type "list",data:= .seq its.toArray },toks:=t' }:=
 I.laid (fun _ _ q=>Heap.get?_push_of_some _ q) (Nat.le_refl _) (nD hz its 0 hv (Heap.get?_push_size _ rfl))
theorem Inv.fresh (I:Inv X pins σ H s):H s.heap.objs.size=none:=I.hok.fresh (Nat.le_refl _)
theorem Inv.lstM (I:Inv X pins σ H s)(hH:H l=some (.lst xs)):xs.length≤sizeLine∧∃ (its:List Value) (n:Nat),Vals xs its∧xs.length=its.length∧s.heap.get? l=some { cls:= .type "list",data:= .seq its.toArray n }:=by
 refine xM (I.hok l _ hH) fun z its n r e=> ?_
 exact (DP z its n r r.length e)
theorem s_ {n:Nat}(h:n≤sizeLine):Builtin.List.listTooLong n=false:=by
 unfold Builtin.List.listTooLong
 exact decide_eq_false (by omega)
end
section
variable{X:Cx}
noncomputable def iu:V→List V→Hp→VK→Prop:=fun x vs H Q=>∃ l xs y,x= .ref l∧vs=[y]∧H l=some (.lst xs)∧xs.length < sizeLine∧Q .non (br H l (.lst (xs ++ [y])))
theorem lE:Ih X "list.append" iu:=by
 intro pins s σ H x vs v us Q I rx rv h
 refine iN (h) fun l xs y hS34 hS35 hH hz q=> ?_; subst hS34; subst hS35
 cases rx
 obtain ⟨u,rfl,ru⟩:=rv.one
 refine rJ (I.lstM hH) fun z its n r hl e=> ?_
 refine call_meets F.slot_list_append ⟨_,e,rfl⟩ F.entry_list_append (F.args_list_append_2 _ _) (PySem.list_append l its.toArray n u (by rw [List.size_toArray]; omega)) ⟨e,?_⟩
 refine ⟨.non,_,I.lset (its':=its ++ [u]) hH e (by simp) (r.append (.cons ru .nil)) ?_,rfl,q⟩
 rw [List.length_append,List.length_singleton]
 omega
noncomputable def rg:V→List V→Hp→VK→Prop:=fun x vs H Q=>∃ l b xs zs,x= .ref l∧vs=[.ref b]∧H l=some (.lst xs)∧H b=some (.lst zs)∧xs.length+zs.length≤sizeLine∧Q .non (br H l (.lst (xs ++ zs)))
theorem xt:Ih X "list.extend" rg:=by
 intro pins s σ H x vs v us Q I rx rv h
 refine Hb (h) fun l b xs zs hS36 hS37 hH hB hz q=> ?_; subst hS36; subst hS37
 cases rx
 obtain ⟨u,rfl,ru⟩:=rv.one
 cases ru
 refine rJ (I.lstM hH) fun z E n r hl e=> ?_
 refine rJ (I.lstM hB) fun z2 J n2 r2 hl2 e2=> ?_
 have hsz:E.toArray.size+J.toArray.size≤sizeLine:=by rw [List.size_toArray,List.size_toArray]; omega
 have hlong:¬ (!E.toArray.isEmpty && Builtin.List.listTooLong (E.toArray.size+J.toArray.size))=true:=by
  rw [s_ hsz,Bool.and_false]
  exact Bool.false_ne_true
 refine call_meets F.slot_list_extend ⟨_,e,rfl⟩ F.entry_list_extend (F.args_list_extend_2 _ _)
  (AutoSeq1.list_extend_list_list_0 l E.toArray n b J.toArray n2 hlong (by rw [List.size_toArray]; omega) (by omega)) ⟨e,e2,?_⟩
 refine ⟨.non,_,I.lset (its':=E ++ J) hH e (by simp) (r.append r2) ?_,rfl,q⟩
 rw [List.length_append]
 omega
noncomputable def HQ:R2:=fun x y H Q=>∃ l b xs zs,x= .ref l∧y= .ref b∧H l=some (.lst xs)∧H b=some (.lst zs)∧xs.length+zs.length≤sizeLine∧∀ p,H p=none→Q (.ref p) (br H p (.lst (xs ++ zs)))
theorem Ep:rO X (binaryOp .Add) HQ:=by
 intro pins s σ H x y v u Q I rx ry h
 refine Hb (h) fun l b xs zs hS38 hS39 hH hB hz q=> ?_; subst hS38; subst hS39
 cases rx
 cases ry
 refine rJ (I.lstM hH) fun z its n r hl e=> ?_
 refine rJ (I.lstM hB) fun z2 its2 n2 r2 hl2 e2=> ?_
 refine PySem.P.add_list e e2 ?_ (by rw [List.size_toArray,List.size_toArray]; omega)
 have ea:its.toArray ++ its2.toArray=(its ++ its2).toArray:=by simp
 rw [ea]
 exact ⟨.ref _,_,I.lnew (t':=s.toks) (r.append r2) (by rw [List.length_append]; omega),rfl,q _ I.fresh⟩
noncomputable def HR:R2:=fun x y H Q=>∃ l k xs,x= .ref l∧y= .int k∧H l=some (.lst xs)∧ -(2 ^ 63)≤k∧k < 2 ^ 63∧xs.length * k.toNat≤sizeLine∧
 ∀ p,H p=none→Q (.ref p) (br H p (.lst (List.replicate k.toNat xs).flatten))
theorem Bi {α:Type}(xs:List α)(k:Nat):(List.replicate k xs).flatten.length=k * xs.length:=by
 induction k with
 | zero=>simp
 | succ k ih=>rw [List.replicate_succ,List.flatten_cons,List.length_append,ih,Nat.succ_mul,Nat.add_comm]
theorem Et:rO X (binaryOp .Mult) HR:=by
 intro pins s σ H x y v u Q I rx ry h
 obtain ⟨l,k,xs,rfl,rfl,hH,h1,h2,hz,q⟩:=h
 cases rx
 obtain ⟨t,rfl⟩:=ry
 refine rJ (I.lstM hH) fun z E n r hl e=> ?_
 have hlen:E.toArray.size * k.toNat≤sizeLine:=by rw [List.size_toArray,← hl]; exact hz
 have hcap:¬ E.toArray.size * k.toNat > (2 ^ 63 - 1) / 8:=by
  have:(sizeLine:Nat)≤(2 ^ 63 - 1) / 8:=by decide
  omega
 have hfit:¬ (!Builtin.List.listFitsIndex k)=true:=by
  rw [fitsIndex_both h1 h2]
  exact Bool.false_ne_true
 have hlong:¬ Builtin.List.listTooLong (E.toArray.size * k.toNat)=true:=by
  rw [s_ hlen]
  exact Bool.false_ne_true
 have hnew:List.foldl (fun x1 x2=>x1 ++ x2) #[] (List.replicate (if E.toArray.isEmpty=true then 0 else k.toNat) E.toArray)=(List.replicate k.toNat E).flatten.toArray:=by
  have f0:∀ m:Nat,List.foldl (fun x1 x2=>x1 ++ x2) #[] (List.replicate m E.toArray)=(List.replicate m E).flatten.toArray:=fun m=>by
   have:=pB E m []
   rw [List.nil_append] at this
   exact this
  rw [f0]
  cases E with
  | nil=>simp
  | cons a r'=>rw [if_neg (by simp)]
 refine wpAny_binaryOp_repeat_ref (T:= "list") (U:= "int") (by decide) ⟨_,e,rfl⟩ (fun s'=>typeIs_int s' k t) noFill_list_mul F.fills_int_mul F.slot_int_rmul repeat_list F.slot_int_index.lookup
  (call_meets F.slot_int_rmul (typeIs_int s k t) F.entry_int_rmul (F.args_int_rmul_2 _ _) (int___rmul___int_list k t l E.toArray n)
   (mj e rfl ⟨_,e,rfl⟩ (call_meets F.slot_list_mul ⟨_,e,rfl⟩ F.entry_list_mul (F.args_list_mul_2 _ _) (AutoListH.list___mul___list_int_3 l E.toArray n k t hfit hcap hlong) ⟨e,?_⟩)))
 rw [hnew]
 exact ⟨.ref _,_,I.lnew (t':=s.toks) (r.rep k.toNat) (by rw [Bi,Nat.mul_comm]; exact hz),rfl,q _ I.fresh⟩
end
section
variable{prog:Program}{w:World}{A:Around}{E:Value→Shared→Prop}{s:Shared}
end
section
variable{X:Cx}
end
end L2
namespace Att
open PySem PySem.W PySem.Calls PyProof.Rows
theorem mh {P:Params}{h:Heap}:∀ (ns:List Int) (vs:List Value),WellAll P h vs (ns.map WData.int)→IntsAre vs ns:=by
 intro ns
 induction ns with
 | nil=>
  intro vs w
  rw [List.map_nil] at w
  cases w
  exact .nil
 | cons n ns ih=>
  intro vs w
  rw [List.map_cons] at w
  cases w with
  | cons a b=>
   cases a
   exact .cons _ _ (ih _ b)
theorem xF {l:OpenLaw}{n:Nat}(hn:l.most=some n){P:Params}{h:Heap}{args:List WData}{vals:List Value}
  (hpre:l.row.toRowW.claim.pre args=true) (hwl:WellAll P h vals args) :
  ∃ a vs ns,vals=[Value.ref a]∧args=[WData.list (ns.map WData.int)]∧h.get? a=some { cls:= .type "list",data:= .seq vs.toArray }∧IntsAre vs ns∧ns.length≤n:=by
 have hsh:WShape.hasAll [] args [.list .int]=true:=(pre_splitW hpre).1
 have hc:l.pre.holds [] { args:=args }=true:=(pre_splitW hpre).2
 refine bA (hasAllW_cons hsh) fun d r hS40 h1 h2=> ?_; subst hS40
 obtain rfl:=hasAllW_nil h2
 obtain ⟨xs,rfl,h3⟩:=hasW_list h1
 obtain ⟨ns,rfl⟩:=items_int h3
 have hlen:ns.length≤n:=by
  unfold OpenLaw.pre at hc
  have h4:(WTm.not (.lt (.lit (.int (n:Int))) (.len (.arg 0)))).holds [] { args:=[.list (ns.map .int)] }=true:=by
   have h4:=(holds_andW hc).1
   rw [hn] at h4
   exact h4
  have h5:=condW_of h4 (w_not (w_lt w_lit (w_len_list (w_arg rfl))))
  rw [List.length_map] at h5
  refine Nat.le_of_not_lt fun q=> ?_
  have q':(n:Int) < ((ns.length:Nat):Int):=by omega
  first
   | (rw [decide_eq_true q'] at h5; exact absurd h5 (by decide))
   | (simp at h5; omega)
 cases hwl with
 | cons w1 w2=>
  cases w2
  cases w1 with
  | list ho hall=>exact (oJ _ _ ns rfl rfl ho (mh ns _ hall) hlen)
theorem xD (l:OpenLaw)(args:List WData):l.row.toRowW.claim.post args (.bool true) args=true:=
 postW_of (r:=l.row.toRowW) (X:=(true == true))
  (show WShape.has [] (.bool true) .bool=true by first | rfl | decide | simp [WShape.has,WShape.arms,WShape.armsAll])
  (show (WTm.eq .res (.lit (.bool true))).value [] { args:=args,res:=some (.bool true),after:=args }=some (.bool (true == true)) from w_eq_bool (w_res rfl) w_lit) rfl
theorem rX {l:OpenLaw}{n:Nat}{q:Program}{loose:List Str}{XP:(Str→Option Value)→Heap→Prop}{YP:World→Heap→Prop}{d:DefRec}
  (hn:l.most=some n) (hdf:d.params.defaults=[])
  (call:∀ (w:World) (s₀ s₁:Shared) (mg mb:Str→Option Value) (fa:Addr) (o:Obj) (pm cd doc:Value) (a:Addr) (vs:List Value) (ns:List Int),
   Ground q loose [] XP w s₀ mg mb s₁.heap→YP w s₁.heap→
   s₁.heap.get? fa=some o→o.data= .func (docDef d.name d.params d.body d.scope pm cd doc)→s₁.heap.CodeRec cd d.name→mg d.name=some (.ref fa)→
   s₁.heap.get? a=some { cls:= .type "list",data:= .seq vs.toArray }→IntsAre vs ns→ns.length≤n→s₁.gens= #[]→
   codeAny (model l.prog w) callerA (.call (.ref fa) ⟨[.ref a],[]⟩) (fun r s'=>r= .ok (.ret (.bool true))∧OldK s₁.heap s'.heap∧s'.os=s₁.os∧AllBare s'.gens) s₁) :
  WalkO q loose XP YP l.row.toRowW d [] (fun f vs=>PySem.call f vs):=by
 intro w s₀ s₁ mg mb G Y fa o pm cd doc dV kV ho hd hcd hD hmg hg args vals as hpre hlay hrd hwl hlo
 obtain rfl:dV= .none:=Dflts.none hD hdf
 obtain rfl:kV= .none:=Dflts.noKw hD
 refine iN (xF hn hpre hwl) fun a vs ns hS41 hS42 hobj hints hlen=> ?_; subst hS41; subst hS42
 refine enter_call (codeAny_mono (call w s₀ s₁ mg mb fa o pm cd doc a vs ns G Y ho (fd_plain hd) hcd hmg hobj hints hlen hg) fun r s' hq=> ?_)
 refine lP (hq) fun hS43 h2 h3 h4=> ?_; subst hS43
 exact (mj (.inl (oJ (.bool true) (.bool true) ([]) rfl (fun _=>rfl) (.bool true) (xD l _) (fun _=>⟨List.Pairwise.nil,fun _ hm=>(nomatch hm)⟩))) h2 h3 h4)
section
variable{prog:Program}{w:World}{A:Around}{E:Value→Shared→Prop}{s:Shared}{K:Frag}
end
end Att
namespace L2
open PySem PySem.Spec PyProof.Rows
theorem qc:∀ {vs:List Value} {ns:List Int},IntsAre vs ns→Vals (ns.map V.int) vs
 | _,_,.nil=> .nil
 | _,_,.cons n t h=> .cons ⟨t,rfl⟩ (qc h)
noncomputable def CQ (H:Hp):Prop:=∀ b,H b=none∨∃ o xs,H b=some (.frz o (.lst xs))
theorem yM {P:Program}{w:World}{K:W.Frag}{mg mb:Str→Option Value}{CX:rM}{k:Nat}{fa a:Addr}{fd:FuncData}{x:Str}{sp:Sp}{s₁:Shared}{vs:List Value}{ns:List Int}
  (KX:K.In s₁.heap) (hns:s₁.heap.Ns mainGlobals mg) (hb:s₁.heap.Ns builtinsNs mb) (hbb:∀ x:Str,x≠ "__name__" →mb x=bootBuiltins x) (hlim:s₁.heap.NoLimit) (hg:s₁.gens= #[])
  (ha:s₁.heap.get? a=some { cls:= .type "list",data:= .seq vs.toArray }) (hi:IntsAre vs ns) (hl:ns.length≤sizeLine) (hr:Room k callerA)
  (F:∀ base:Heap,K.In base→base.Ns mainGlobals mg→FnOk P w K mg base CX k fa fd [x] sp) (hbind:∀ (s:Shared) (u:Value),BindsTo s fd ⟨[u],[]⟩ [(x,u)])
  (hsp:∀ H:Hp,CQ H→gu K H a (ns.map V.int)→sp [.ref a] H (fun v _=>v= .bl true) fun _ _ _=>False)
  (hCX:∀ H e s',CX [] H s₁ (fun _ _ _=>False) e s'→False) :
  codeAny (model P w) callerA (.call (.ref fa) ⟨[.ref a],[]⟩) (fun r s'=>r= .ok (.ret (.bool true))∧OldK s₁.heap s'.heap∧s'.os=s₁.os∧AllBare s'.gens) s₁:=by
 have rv:=qc hi
 have lenV:=hi.length
 -- from an abstract heap in which nothing but the script may be tracked
 have core:∀ H:Hp,CQ H→gu K H a (ns.map V.int)→HOk P w H s₁.heap→(∀ b,H b≠none→b=a)→(H a≠none→K.lookup a=none)→
   codeAny (model P w) callerA (.call (.ref fa) ⟨[.ref a],[]⟩) (fun r s'=>r= .ok (.ret (.bool true))∧OldK s₁.heap s'.heap∧s'.os=s₁.os∧AllBare s'.gens) s₁:=by
  intro H hO hS hok hA hK
  have J:∀ {b:Addr} {o:Obj},s₁.heap.get? b=some o→H b=none→(qI s₁.heap H).get? b=some o:=fun e n=>yE e n
  have noA:∀ {b:Addr} {o:Obj} {es:Array DictEntry} {ep:Nat},s₁.heap.get? b=some o→o.data= .dict es ep→H b=none:=fun {b o es ep} e d=>by
   cases q:H b with
   | none=>rfl
   | some u=>
    have e':b=a:=hA b (by rw [q]; simp)
    subst e'
    rw [ha] at e; cases e
    have d':Data.seq vs.toArray _=Data.dict es ep:=d
    cases d'
  have L:∀ {b:Addr} {m:Str→Option Value},s₁.heap.Ns b m→(qI s₁.heap H).Ns b m:=fun {b m} hZ76=>(by refine oX (hZ76) fun o es ep e d r=> ?_; exact ⟨o,es,ep,J e (noA e d),d,r⟩)
  have hKb:K.In (qI s₁.heap H):=fun b o e=>J (KX b o e) (by
   cases q:H b with
   | none=>rfl
   | some u=>
    have e':b=a:=hA b (by rw [q]; simp)
    subst e'
    rw [hK (by rw [q]; simp)] at e; cases e)
  have hM:Mod K mg (qI s₁.heap H):=⟨hKb,L hns,⟨mb,L hb,hbb⟩,let ⟨mc,h1,h2⟩:=hlim; ⟨mc,L h1,h2⟩⟩
  have e0:Env0 P w K mg (qI s₁.heap H) callerA [] s₁ H:=⟨rfl,hM,fun b o e=>Bl e,Nat.le_of_eq (w9 _ _),trivial,fun b hb=>absurd (show b∈([]:List Addr) from hb) (by simp),hok,.of_eq hg⟩
  refine codeAny_mono ((F _ hKb (L hns)).run callerA [] s₁ H ⟨[.ref a],[]⟩ [.ref a] [.ref a] _ _ hr e0 (hbind s₁ (.ref a)) (.cons rfl .nil) (hsp H hO hS)) fun r s' h=> ?_
  cases r with
  | error e=>exact (hCX H e s' h).elim
  | ok fl=>
   cases fl with
   | next=>exact False.elim h
   | brk=>exact False.elim h
   | cont=>exact False.elim h
   | ret u=>
    obtain ⟨v,H',os,bare,un,hok',r',q⟩:=h
    have q':v= .bl true:=q
    subst q'
    obtain rfl:u=Value.bool true:=r'
    refine (mj rfl (OldK.of_keep fun b o e=> ?_) os bare)
    cases q:H b with
    | none=>exact un.keep b o e q (by intro z; exact absurd (show b∈([]:List Addr) from z) (by simp)) (by simp)
    | some u=>
     rcases hO b with z | ⟨ob,xs,z⟩
     ·rw [q] at z; cases z
     ·have z2:=un.frzs b ob _ z
      obtain ⟨e1,_⟩:=hok b _ z
      obtain ⟨e2,_⟩:=hok' b _ z2
      rw [e] at e1; cases e1
      exact e2
 cases hk:K.lookup a with
 | some o=>
  -- the script is one of the module's own objects
  have e:=KX a o hk
  rw [ha] at e
  cases e
  refine core (fun _=>none) (fun _=> .inl rfl) (.inr (Ga _ vs.toArray _ hk rfl rfl rfl (by rw [List.size_toArray,lenV]; exact hl) (by simpa using rv))) (fun b u z=>by have z':(none:Option HO)=some u:=z; cases z') (fun b z=>absurd rfl z) fun z=>absurd rfl z
 | none=>
  refine core (fun b=>if b=a then some (.frz { cls:= .type "list",data:= .seq vs.toArray } (.lst (ns.map V.int))) else none) (fun b=> ?_) (.inl (.inr ⟨{ cls:= .type "list",data:= .seq vs.toArray },if_pos rfl⟩)) (fun b u z=> ?_) (fun b z=> ?_) fun _=>hk
  ·by_cases hb:b=a
   ·exact .inr ⟨_,_,if_pos hb⟩
   ·exact .inl (if_neg hb)
  ·by_cases hb:b=a
   ·have z':=(if_pos hb).symm.trans z
    cases z'
    subst hb
    exact ⟨ha,by rw [List.length_map]; exact hl,vs,_,rv,ha⟩
   ·have z':=(if_neg hb).symm.trans z
    cases z'
  ·by_cases hb:b=a
   ·exact hb
   ·exact absurd (if_neg hb) z
theorem Ce {l:W.OpenLaw}{n k:Nat}{q:Program}{loose:List Str}{XP:(Str→Option Value)→Heap→Prop}{YP:World→Heap→Prop}{d:DefRec}{K:Params→W.Frag}{CX:World→rM}{sp:World→Sp}{x:Str}
  (hn:l.most=some n) (hn2:n≤sizeLine) (hdf:d.params.defaults=[]) (hr:Room k callerA)
  (hY:∀ (w:World) (h:Heap),YP w h→(K w.params).In h)
  (F:∀ (w:World) (mg:Str→Option Value) (fa:Addr) (h:Heap),(K w.params).In h→h.Ns mainGlobals mg→mg d.name=some (.ref fa)→
   ∃ fd:FuncData,(∀ (s:Shared) (u:Value),BindsTo s fd ⟨[u],[]⟩ [(x,u)])∧
    ∀ base:Heap,(K w.params).In base→base.Ns mainGlobals mg→FnOk l.prog w (K w.params) mg base (CX w) k fa fd [x] (sp w))
  (hsp:∀ (w:World) (H:Hp) (a:Addr) (ns:List Int),ns.length≤n→CQ H→gu (K w.params) H a (ns.map V.int)→sp w [.ref a] H (fun v _=>v= .bl true) fun _ _ _=>False)
  (hCX:∀ (w:World) (H:Hp) (s:Shared) (e:Value) (s':Shared),CX w [] H s (fun _ _ _=>False) e s'→False) :
  W.WalkO q loose XP YP l.row.toRowW d [] (fun f vs=>PySem.call f vs):=by
 refine Att.rX hn hdf fun w s₀ s₁ mg mb fa o pm cd doc a vs ns G Y ho hd hcd hmg hobj hints hlen hg=> ?_
 have KX:=hY w _ Y
 obtain ⟨fd,hb,hF⟩:=F w mg fa _ KX G.T.g hmg
 exact yM KX G.T.g G.T.b G.T.builtins G.T.nolimit hg hobj hints (Nat.le_trans hlen hn2) hr hF hb (fun H hO hS=>hsp w H a ns hlen hO hS) fun H e s'=>hCX w H s₁ e s'
noncomputable def jk (s:Stmt)(j:Nat):Stmt:=match s with
 | .ClassDef _ _ _ body _ _ _ _ _ _ _=>body.getD j (.Pass ⟨0,0,0,0⟩)
 | _=> .Pass ⟨0,0,0,0⟩
noncomputable def h_ (s:Stmt):Arguments:=match s with
 | .FunctionDef _ a _ _ _ _ _ _ _ _=>a
 | _=>{ posonlyargs:=[],args:=[],vararg:=none,kwonlyargs:=[],kw_defaults:=[],kwarg:=none,defaults:=[] }
noncomputable def cK (s:Stmt):List Stmt:=match s with
 | .FunctionDef _ _ b _ _ _ _ _ _ _=>b
 | _=>[]
noncomputable def ai (s:Stmt):Scope:=match s with
 | .FunctionDef _ _ _ _ _ _ sc _ _ _=>sc
 | _=>{ kind:= .function,names:=[],isGenerator:=false,isCoroutine:=false }
structure Fun (K:W.Frag)(x qual:Str)(st:Stmt)(f:Addr)(fd:FuncData):Prop where
 ex:∃ (oc:Value) (od:Option Addr) (kV doc pm:Value) (an:Option Addr) (cdv ct:Value) (osl:Array (Option Value)),
  fd=W.fnOf x qual (h_ st) (cK st) (ai st) .none kV doc pm an cdv ct∧K.lookup f=some ⟨oc,od,.func fd,osl⟩∧W.codeIn K cdv qual=true
 kp:W.keepIn K (.ref f)=true
section
variable{P:Program}{w:World}{K:W.Frag}{mg:Str→Option Value}{base:Heap}
theorem Fun.binds {x qual:Str}{st:Stmt}{f:Addr}{fd:FuncData}{ps:List Str}(F:Fun K x qual st f fd)
  (h:∀ (kV doc pm:Value) (an:Option Addr) (cdv ct:Value) (us:List Value),us.length=ps.length→bindArgs (W.fnOf x qual (h_ st) (cK st) (ai st) .none kV doc pm an cdv ct) ⟨us,[]⟩=pure (ps.zip us)):Binds K fd ps []:=by
 refine Ch (F.ex) fun oc od kV doc pm an cdv ct osl hS44 lk hcd=> ?_; subst hS44
 exact .all (h kV doc pm an cdv ct)
theorem yz {x qual:Str}{st:Stmt}{f:Addr}{oc:Value}{od an:Option Addr}{osl:Array (Option Value)}{kV doc pm cdv ct:Value}(l:K.lookup f=some ⟨oc,od,.func (W.fnOf x qual (h_ st) (cK st) (ai st) .none kV doc pm an cdv ct),osl⟩)
  (c:W.codeIn K cdv qual=true) (k:W.keepIn K (.ref f)=true):Fun K x qual st f (W.fnOf x qual (h_ st) (cK st) (ai st) .none kV doc pm an cdv ct):=⟨⟨oc,od,kV,doc,pm,an,cdv,ct,osl,rfl,l,c⟩,k⟩
end
section
variable{X:Cx}
theorem pv (i:Nat){x:Str}{pos:Pos}(hN:X.N[i]?=some x:=by rfl)(hv:xP X.env.scope x:=by first | exact Or.inl rfl | exact Or.inr (Or.inl rfl) | exact Or.inr (Or.inr rfl))(hd:(x == ("__debug__" :Str))=false:=by decide)
  (hcd:(x == ("__classdict__" :Str))=false:=by decide):PE X (.Name x pos) (GZ i):=iq hN hv hd hcd
end
noncomputable def Same (H H':Hp):Prop:=∀ b o,H b=some o→H' b=some o
theorem Same.refl (H:Hp):Same H H:=fun _ _ h=>h
theorem Same.trans {H H1 H2:Hp}(a:Same H H1)(b:Same H1 H2):Same H H2:=fun c o h=>b c o (a c o h)
theorem Same.free {H H':Hp}(e:Same H H'){l:Addr}(h:H' l=Option.none):H l=Option.none:=by
 cases q:H l with
 | none=>rfl
 | some o=>
  rw [e l o q] at h
  cases h
theorem Same.seq {K:W.Frag}{H H':Hp}{a:Addr}{xs:List V}(e:Same H H')(h:gu K H a xs):gu K H' a xs:=by
 rcases h with (h | ⟨o,h⟩) | h
 ·exact .inl (.inl (e _ _ h))
 ·exact .inl (.inr ⟨o,e _ _ h⟩)
 ·exact .inr h
section
variable(P:Program)(w:World)
end
section
variable{P:Program}{w:World}{H H':Hp}{h h':Heap}{a:Addr}{o:HO}
end
section
variable{P:Program}{w:World}{H:Hp}{h h':Heap}{x e:Addr}{o':HO}
end
section
variable{fs fs' ex ex':List Addr}{H H1 H2:Hp}{h h1 h2 h':Heap}{a x e:Addr}{o:HO}
end
section
variable{X:Cx}{pins:List (Addr×Obj)}{σ:List (Option V)}{H H':Hp}{s:Shared}{h':Heap}
end
section
variable{X:Cx}
variable{a b:Expr}{ta tb:TE}{pos:Pos}
variable{tA tB':TT}{rest:List Expr}
end
section
variable{X:Cx}{pins:List (Addr×Obj)}{σ:St}{H:Hp}{s:Shared}{a:Addr}{xs ys:List V}
end
section
variable{X:Cx}{pins:List (Addr×Obj)}{σ:St}{H:Hp}{s:Shared}{E:Value→Shared→Prop}
end
section
variable{X:Cx}{st:Stmt}{rest:List Stmt}{t u:TS}{e:Expr}{te:TE}{pos:Pos}
end
section
variable{X:Cx}{pos:Pos}
end
section
variable{X:Cx}{tg:Expr}
end
section
variable{X:Cx}{a b c:Expr}{ta tb tc:TE}{pos:Pos}
end
section
variable{prog:Program}{w:World}{A:Around}{E:Value→Shared→Prop}{s:Shared}{K:W.Frag}{x dx C f:Addr}{mA:Str→Option Value}{name:Str}{v:Value}
end
section
variable{P:Program}{w:World}{H H':Hp}{h h':Heap}{a C dx:Addr}{fs fs':List (Str×V)}
end
section
variable{X:Cx}{pins:List (Addr×Obj)}{σ:St}{H:Hp}{s:Shared}{a C dx:Addr}{fs:List (Str×V)}{f:Str}{v:V}{A:Around}{E:Value→Shared→Prop}
end
section
variable{X:Cx}{o e value:Expr}{f:Str}{pos pos' tpos:Pos}{ta tv:TE}
end
section
variable{X:Cx}{pins:List (Addr×Obj)}{σ:St}{H:Hp}{s:Shared}{A:Around}{E:Value→Shared→Prop}{Q:Value→Shared→Prop}{c:Value}{b:Bool}
end
section
variable{X:Cx}{e:Expr}{es:List Expr}{te:TE}{t:TA}{pos:Pos}
end
section
variable{X:Cx}{pins:List (Addr×Obj)}{σ:St}{H:Hp}{s s':Shared}
end
section
variable{X:Cx}{CX:rM}{k:Nat}{f C:Addr}{fd:FuncData}{ps:List Str}{sp:Sp}{dvs:List V}{ds:List Value}{E:XK}{x m:Str}{p pos apos:Pos}{e o:Expr}{es:List Expr}{ta:TE}{t:TA}
end
section
variable{X:Cx}{CX:rM}{k:Nat}{f C:Addr}{fd:FuncData}{ps ks:List Str}{sp:Sp}{E:XK}{x m:Str}{p pos apos kpos:Pos}{e o:Expr}{es:List Expr}{kws:List Keyword}{te ta:TE}{t tk:TA}{nm:Option Str}
variable{g:List Value→List Value→List Value}{gV:List V→List V→List V}
end
section
variable{X:Cx}{x:Str}{p pos:Pos}{e:Expr}{es:List Expr}{t:TA}{id T:String}{r:List V→Hp→VK→Prop}
end
section
variable{κ:Type}[DecidableEq κ]
noncomputable def iL (kvs:List (κ×V))(k:κ):Option V:=(kvs.find? fun kv=>decide (kv.1=k)).map (·.2)
noncomputable def fH (kvs:List (κ×V))(k:κ)(v:V):List (κ×V):=
 if (kvs.any fun kv=>decide (kv.1=k))=true then kvs.map (fun kv=>if kv.1=k then (kv.1,v) else kv) else kvs ++ [(k,v)]
theorem kX {p:κ×V}{r:List (κ×V)}{k:κ}(e:p.1=k):iL (p :: r) k=some p.2:=by simp [iL,List.find?_cons,e]
theorem jd {p:κ×V}{r:List (κ×V)}{k:κ}(e:¬ p.1=k):iL (p :: r) k=iL r k:=by simp [iL,List.find?_cons,e]
theorem kW (k:κ):∀ kvs:List (κ×V),(kvs.any fun kv=>decide (kv.1=k))=(iL kvs k).isSome
 | []=>rfl
 | p :: r=>by
  rw [List.any_cons]
  by_cases e:p.1=k
  ·simp only [kX e,decide_eq_true e,Bool.true_or,Option.isSome_some]
  ·rw [jd e,decide_eq_false e,Bool.false_or]; exact kW k r
theorem lX (kvs:List (κ×V))(k:κ)(v:V):(fH kvs k v).length≤kvs.length+1:=by
 unfold fH
 split
 ·rw [List.length_map]; omega
 ·rw [List.length_append,List.length_cons,List.length_nil]; omega
theorem zv {kvs:List (κ×V)}{k:κ}(v:V)(h:iL kvs k=none):fH kvs k v=kvs ++ [(k,v)]:=by
 unfold fH
 rw [kW,h]
 exact if_neg (by decide)
theorem RelO.isSome_eq {o:Option V}{u:Option Value}(r:RelO o u):o.isSome=u.isSome:=by
 cases o with
 | none=>cases u with
  | none=>rfl
  | some _=>exact (show False from r).elim
 | some _=>cases u with
  | none=>exact (show False from r).elim
  | some _=>rfl
theorem KV.val {kvs:List (κ×V)}{vs:List (κ×Value)}(r:KV kvs vs)(k:κ):RelO (iL kvs k) (valueAt vs k):=by
 unfold KV at r
 induction r with
 | nil=>exact True.intro
 | @cons p q ps qs h t ih=>
  obtain ⟨h1,h2⟩:=h
  by_cases e:p.1=k
  ·have e':q.1=k:=h1.symm.trans e
   have b:valueAt (q :: qs) k=some q.2:=by simp [valueAt,List.find?_cons,e']
   rw [kX e,b]; exact h2
  ·have e':¬ q.1=k:=fun z=>e (h1.trans z)
   have b:valueAt (q :: qs) k=valueAt qs k:=by simp [valueAt,List.find?_cons,e']
   rw [jd e,b]; exact ih
theorem KV.any {kvs:List (κ×V)}{vs:List (κ×Value)}(r:KV kvs vs)(k:κ):(kvs.any fun kv=>decide (kv.1=k))=vs.any fun kv=>decide (kv.1=k):=by
 unfold KV at r
 induction r with
 | nil=>rfl
 | cons h t ih=>rw [List.any_cons,List.any_cons,ih,h.1]
theorem KV.repl {kvs:List (κ×V)}{vs:List (κ×Value)}(r:KV kvs vs)(k:κ){y:V}{u:Value}(ry:RelV y u) :
  KV (kvs.map fun kv=>if kv.1=k then (kv.1,y) else kv) (vs.map fun kv=>if kv.1=k then (kv.1,u) else kv):=by
 unfold KV at r ⊢
 induction r with
 | nil=>exact .nil
 | @cons p q ps qs h t ih=>
  rw [List.map_cons,List.map_cons]
  refine .cons ?_ ih
  obtain ⟨h1,h2⟩:=h
  by_cases e:p.1=k
  ·rw [if_pos e,if_pos (h1.symm.trans e)]; exact ⟨h1,ry⟩
  ·rw [if_neg e,if_neg (fun z=>e (h1.trans z))]; exact ⟨h1,h2⟩
theorem KV.put {kvs:List (κ×V)}{vs:List (κ×Value)}(r:KV kvs vs)(k:κ){y:V}{u:Value}(ry:RelV y u):KV (fH kvs k y) (stored vs k u):=by
 unfold fH stored
 rw [r.any k]
 by_cases e:(vs.any fun kv=>decide (kv.1=k))=true
 ·rw [if_pos e,if_pos e]; exact r.repl k ry
 ·rw [if_neg e,if_neg e]; exact Paired.snoc r ⟨rfl,ry⟩
theorem KV.length {kvs:List (κ×V)}{vs:List (κ×Value)}(r:KV kvs vs):kvs.length=vs.length:=Paired.length r
end
theorem yJ {P:Program}{w:World}{k:bH}{u:Value}(r:RelV (kV k) u):(b7 P w).is k u=true:=by
 cases k with
 | inl i=>obtain ⟨t,e⟩:=(show ∃ t,u=Value.int i t from r); subst e; exact sY P w i t
 | inr x=>obtain ⟨t,e⟩:=(show ∃ t,u=Value.str x t from r); subst e; exact s0 P w x t
theorem pE {P:Program}{w:World}:∀ {ks:List bH} {us:List Value},Vals (ks.map kV) us→ItemsAre (b7 P w) ks us
 | [],_,r=>by rw [List.map_nil] at r; cases r; exact .nil
 | k :: ks,_,r=>by
  rw [List.map_cons] at r
  cases r with
  | cons h t=>exact .cons (yJ h) (pE t)
noncomputable abbrev KT (H:Hp):List (List bH×V)→List (List bH×Addr×Value)→Prop:=Paired fun p q=>p.1=q.1∧H q.2.1=some (.tup (p.1.map kV))∧RelV p.2 q.2.2
theorem KT.val {H:Hp}{kvs:List (List bH×V)}{xs:List (List bH×Addr×Value)}(r:KT H kvs xs)(k:List bH):RelO (iL kvs k) ((atKey xs k).map (·.2)):=by
 induction r with
 | nil=>exact True.intro
 | @cons p q ps qs h t ih=>
  obtain ⟨h1,_,h2⟩:=h
  by_cases e:p.1=k
  ·have e':q.1=k:=h1.symm.trans e
   have b:atKey (q :: qs) k=some q.2:=by simp [atKey,List.find?_cons,e']
   rw [kX e,b]; exact h2
  ·have e':¬ q.1=k:=fun z=>e (h1.trans z)
   have b:atKey (q :: qs) k=atKey qs k:=by simp [atKey,List.find?_cons,e']
   rw [jd e,b]; exact ih
theorem KT.repl {H:Hp}{kvs:List (List bH×V)}{xs:List (List bH×Addr×Value)}(r:KT H kvs xs)(k:List bH){y:V}{u:Value}(ry:RelV y u) :
  KT H (kvs.map fun kv=>if kv.1=k then (kv.1,y) else kv) (xs.map (putAt k u)):=by
 induction r with
 | nil=>exact .nil
 | @cons p q ps qs h t ih=>
  rw [List.map_cons,List.map_cons]
  refine .cons ?_ ih
  obtain ⟨h1,h2,h3⟩:=h
  unfold putAt
  by_cases e:p.1=k
  ·rw [if_pos e,if_pos (h1.symm.trans e)]; exact ⟨h1,h2,ry⟩
  ·rw [if_neg e,if_neg (fun z=>e (h1.trans z))]; exact ⟨h1,h2,h3⟩
theorem KT.put {H:Hp}{kvs:List (List bH×V)}{xs:List (List bH×Addr×Value)}(r:KT H kvs xs)(k:List bH){b:Addr}{y:V}{u:Value}(hb:H b=some (.tup (k.map kV)))(ry:RelV y u) :
  KT H (fH kvs k y) (storedH xs k b u):=by
 have e:(kvs.any fun kv=>decide (kv.1=k))=(atKey xs k).isSome:=by
  rw [kW,(r.val k).isSome_eq,Option.isSome_map]
 unfold fH storedH
 rw [e]
 by_cases q:(atKey xs k).isSome=true
 ·rw [if_pos q,if_pos q]; exact r.repl k ry
 ·rw [if_neg q,if_neg q]; exact Paired.snoc r ⟨rfl,hb,ry⟩
theorem KT.keeps {H H':Hp}{kvs:List (List bH×V)}{xs:List (List bH×Addr×Value)}(r:KT H kvs xs)(ht:∀ b ys,H b=some (.tup ys)→H' b=some (.tup ys)):KT H' kvs xs:=
 Paired.mapP r fun _ _ z=>⟨z.1,ht _ _ z.2.1,z.2.2⟩
section
variable{P:Program}{w:World}{H:Hp}{h:Heap}{a:Addr}
theorem zA {u:HO}(ok:HOk P w H h)(e:Rd H a u):ObjOk P w H h a u:=e.ok ok
theorem yb {kvs:List (bH×V)}(ok:HOk P w H h)(e:Rd H a (.dK kvs)):kvs.length≤sizeLine∧(a == sysModules)=false∧∃ vs,KV kvs vs∧h.DictOf (b7 P w) a vs:=
 show ObjOk P w H h a (.dK kvs) from zA ok e
theorem Fz {kvs:List (bH×V)}(ok:HOk P w H h)(e:H a=some (.dK kvs)):kvs.length≤sizeLine∧(a == sysModules)=false∧∃ vs,KV kvs vs∧h.DictOf (b7 P w) a vs:=yb ok (.inl e)
theorem uC {ks:List bH}(ok:HOk P w H h)(e:H a=some (.tup (ks.map kV))):(tupleKind (b7 P w)).is h ks a:=by
 obtain ⟨_,its,r,o,h1,h2,n,h3⟩:=(show ObjOk P w H h a (.tup (ks.map kV)) from ok a _ e)
 exact (jT o its.toArray n h1 h2 h3 (by simpa using pE r))
theorem ye {kvs:List (List bH×V)}(ok:HOk P w H h)(e:Rd H a (.dT kvs)):kvs.length≤sizeLine∧(a == sysModules)=false∧
  ∃ xs,KT H kvs xs∧h.DictOfH (tupleKind (b7 P w)) a xs:=by
 refine Fg ((show ObjOk P w H h a (.dT kvs) from zA ok e)) fun z y xs r o es ep h1 h2 h3 h4 h5=> ?_
 refine ⟨z,y,xs,r,o,es,ep,h1,h2,h3,h4,fun x hx=> ?_,h5⟩
 have all:∀ {l:List (List bH×V)} {m:List (List bH×Addr×Value)},KT H l m→∀ x∈m,(tupleKind (b7 P w)).is h x.1 x.2.1:=by
  intro l m q
  induction q with
  | nil=>intro x hx; exact nomatch hx
  | @cons p q ps qs hq t ih=>
   intro x hx
   rcases List.mem_cons.mp hx with e | hx
   ·subst e
    exact uC ok (by rw [← hq.1]; exact hq.2.1)
   ·exact ih x hx
 exact all r x hx
theorem FB {kvs:List (List bH×V)}(ok:HOk P w H h)(e:H a=some (.dT kvs)):kvs.length≤sizeLine∧(a == sysModules)=false∧
  ∃ xs,KT H kvs xs∧h.DictOfH (tupleKind (b7 P w)) a xs:=ye ok (.inl e)
end
noncomputable def CN (H:Hp)(a:Addr)(y:V)(r:Option V):Prop:=
 (∃ kvs k,Rd H a (.dK kvs)∧y=kV k∧r=iL kvs k)∨∃ kvs k b,Rd H a (.dT kvs)∧y= .ref b∧H b=some (.tup (k.map kV))∧r=iL kvs k
noncomputable def Fm (H:Hp)(a:Addr)(y v:V)(H':Hp):Prop:=
 (∃ kvs k,H a=some (.dK kvs)∧y=kV k∧kvs.length < sizeLine∧H'=br H a (.dK (fH kvs k v)))∨
 ∃ kvs k b,H a=some (.dT kvs)∧y= .ref b∧H b=some (.tup (k.map kV))∧kvs.length < sizeLine∧H'=br H a (.dT (fH kvs k v))
section
variable{X:Cx}{pins:List (Addr×Obj)}{σ:St}{H:Hp}{s:Shared}{a:Addr}{y v:V}{u r:Value}{o:Option V}{A:Around}{E:Value→Shared→Prop}
theorem Inv.big (I:Inv X pins σ H s):sysModules < s.heap.objs.size:=by
 have h:mainGlobals < s.heap.objs.size:=(I.mod.glob.keeps I.bk).lt
 exact Nat.lt_trans (by decide) h
theorem wL {Q:Value→Shared→Prop}(hu:A.units+1 < cLine)(I:Inv X pins σ H s)(g:CN H a y (some v))(ry:RelV y u)(h:∀ w' s',Inv X pins σ H s'→RelV v w'→Q w' s') :
  wpAny (model X.prog X.w) A (getItem (.ref a) u) Q E s:=by
 rcases g with ⟨kvs,k,e,ey,l⟩ | ⟨kvs,k,b,e,ey,eb,l⟩
 ·subst ey
  refine xO (yb I.hok e) fun z hd vs rel dd=> ?_
  obtain ⟨w',hw,rw'⟩:=RelO.some_of (v:=v) (o:=valueAt vs k) (by rw [l]; exact rel.val k)
  exact wpAny_getItem_of (yJ ry) dd.mapOf hw (h w' _ (I.tok _) rw')
 ·subst ey
  cases (show u=Value.ref b from ry)
  refine xO (ye I.hok e) fun z hd xs rel dd=> ?_
  obtain ⟨w',hw,rw'⟩:=RelO.some_of (v:=v) (o:=(atKey xs k).map (·.2)) (by rw [l]; exact rel.val k)
  obtain ⟨p,hp,hp2⟩:=Option.map_eq_some_iff.mp hw
  refine wpAny_getItem_heap (tupleKind_room_in1 hu) (uC I.hok eb) dd hp ?_
  rw [hp2]
  exact h w' _ (I.tok _) rw'
theorem vw {h':Heap}{t':Nat}{ob:HO}(I:Inv X pins σ H s)(mu:Fq (H a))(hs:Heap.SameBut a s.heap h')(he:∃ q,h'.get? a=some q)(new:ObjOk X.prog X.w (br H a ob) h' a ob) :
  Inv X pins σ (br H a ob) { s with heap:=h',toks:=t' }:=
 I.write (x:=a) (e:=a) mu (.inl rfl) (fun b q hb z=>(hs.2 b hb).trans z) he new
theorem Df {P:Program}{w:World}{H':Hp}{h':Heap}{kvs:List (bH×V)}{vs:List (bH×Value)}(z:kvs.length≤sizeLine)(hd:(a == sysModules)=false)(rel:KV kvs vs)(dd:h'.DictOf (b7 P w) a vs) :
  ObjOk P w H' h' a (.dK kvs):=⟨z,hd,vs,rel,dd⟩
theorem wM {H':Hp}{Q:Unit→Shared→Prop}(hu:A.units+1 < cLine)(I:Inv X pins σ H s)(g:Fm H a y v H')(ry:RelV y u)(rv:RelV v r)(h:∀ s',Inv X pins σ H' s'→Q () s') :
  wpAny (model X.prog X.w) A (setItem (.ref a) u r) Q E s:=by
 rcases g with ⟨L,k,e,ey,l,eH⟩ | ⟨L,k,b,e,ey,eb,l,eH⟩
 ·subst ey eH
  refine xO (Fz I.hok e) fun z hd vs M dd=> ?_
  have hz:vs.length≤sizeLine:=by rw [← M.length]; exact z
  have hl:(fH L k v).length≤sizeLine:=by have:=lX L k v; omega
  refine wpAny_setItem_pairs (hsz:=hz) (yJ ry) dd fun h' N hs=>h _ ?_
  have he:∃ q,h'.get? a=some q:=let ⟨q,_,_,hq,_⟩:=N; ⟨q,hq⟩
  exact vw I (by rw [e]; exact True.intro) hs he (Df hl hd (M.put k rv) N)
 ·subst ey eH
  cases (show u=Value.ref b from ry)
  refine xO (FB I.hok e) fun z hd xs M dd=> ?_
  have hz:xs.length≤sizeLine:=by rw [← Paired.length M]; exact z
  have hl:(fH L k v).length≤sizeLine:=by have:=lX L k v; omega
  refine wpAny_setItem_heap (hsz:=hz) (tupleKind_room_in1 hu) (uC I.hok eb) dd fun h' N hs=>h _ ?_
  obtain ⟨q,es,ep,hq,h2,h3,h4,_,h5⟩:=N
  refine vw I (by rw [e]; exact True.intro) hs ⟨q,hq⟩ (Gb hl hd _ ((M.put k eb rv).keeps fun c ys ec=> ?_) q es ep hq h2 h3 h4 h5)
  rw [al (Gz ec e (fun z=>nomatch z))]
  exact ec
end
section
variable{X:Cx}{pins:List (Addr×Obj)}{σ:St}{H:Hp}{s:Shared}{a:Addr}{kvs:List (bH×V)}{k:bH}{u:Value}{A:Around}{E:Value→Shared→Prop}
end
noncomputable def zZ (i:Expr):Prop:=∀ ov iv,subscripted i false ov iv=operate [ov,iv] (getItem ov iv)
theorem Cc {prog:Program}{w:World}{A:Around}{E:Value→Shared→Prop}{s:Shared}{env:Env}{value slice:Expr}{pos:Pos}{T id:String}{Q:Value→Shared→Prop}
  (hl:typeLookup (.type T) "__getitem__" =pure (some (.builtin id))) (hs:zZ slice)
  (h:wpAny (model prog w) A (eval value env) (fun o s₁=>wpAny (model prog w) A (eval slice env) (fun i s₂=>s₂.TypeIs o T∧wpAny (model prog w) A (getItem o i) Q E s₂) E s₁) E s) :
  wpAny (model prog w) A (eval (.Subscript value slice pos) env) Q E s:=by
 refine Subscript_ (wpAny_mono h (fun o s₁ h₁=>wpAny_mono h₁ (fun i s₂ O=> ?_) fun _ _ x=>x) fun _ _ x=>x)
 obtain ⟨hT,O⟩:=O
 unfold subscriptTail
 refine wpAny_bind ?_
 rw [getitemInPython_of_ne hT.not_modules]
 refine wpAny_bind (wpAny_specialOf hT hl ?_)
 have fin:wpAny (model prog w) A (subscripted slice false o i) (fun r s₃=>wpAny (model prog w) A (letTemporaryGo value o r >>= fun _=>pure r) Q E s₃) E s₂:=by
  rw [hs o i]
  exact wpAny_operating (wpAny_mono O (fun r s₃ h₃=>wpAny_bind (wpAny_letTemporaryGo (wpAny_pure h₃))) fun _ _ x=>x)
 first
  | exact wpAny_pure (wpAny_bind fin)
  | exact wpAny_bind (wpAny_pure (wpAny_bind fin))
  | exact wpAny_bind fin
theorem r_ {X:Cx}{pins:List (Addr×Obj)}{σ:St}{H:Hp}{s:Shared}{a:Addr}{y:V}{o:Option V}(I:Inv X pins σ H s)(g:CN H a y o):s.TypeIs (.ref a) "dict" :=by
 rcases g with ⟨kvs,k,e,_,_⟩ | ⟨kvs,k,b,e,_,_,_⟩
 ·refine xO (yb I.hok e) fun _ _ vs _ dd=> ?_
  exact dd.typeIs
 ·refine xO (ye I.hok e) fun _ _ xs _ dd=> ?_
  exact dd.typeIs
noncomputable def CH (td ty:TE):TE:=fun σ H Q=>td σ H fun x H1=>ty σ H1 fun y H2=>∃ a v,x= .ref a∧CN H2 a y (some v)∧Q v H2
noncomputable def GU (td ty tv:TE):TS:=fun D σ H=>tv σ H fun v H1=>td σ H1 fun x H2=>ty σ H2 fun y H3=>∃ a H4,x= .ref a∧Fm H3 a y v H4∧D.nx σ H4
section
variable{X:Cx}{o i e value:Expr}{pos pos' tpos:Pos}{td ty tv:TE}
theorem v6 (hu:X.A.units+1 < cLine)(ho:PE X o td)(hi:PE X i ty)(hs:zZ i):PE X (.Subscript o i pos) (CH td ty):=by
 intro pins s σ H Q I h
 refine Cc PySem.F.slot_dict_getitem.lookup hs (aT (ho pins s σ H _ I h) fun u s1 ⟨x,H1,I1,rx,q1⟩=>aT (hi pins s1 σ H1 _ I1 q1) fun iv s2 hZ78=> ?_)
 obtain ⟨y,H2,I2,ry,a,v,ex,g,q2⟩:=hZ78
 subst ex
 obtain rfl:u=Value.ref a:=rx
 exact ⟨r_ I2 g,wL hu I2 g ry fun w' s3 I3 rw'=>⟨v,H2,I3,rw',q2⟩⟩
theorem BN (hu:X.A.units+1 < cLine)(ho:PE X o td)(hi:PE X i ty)(hv:PE X value tv)(hs:swapsWith value (some (.Subscript o i pos')) pos.line X.env=pure false) :
  PS X (.Assign [.Subscript o i pos'] value pos) (GU td ty tv):=by
 intro p s σ H D I h
 refine wpAny_Assign_Subscript (aT (hv p s σ H _ I h) fun r s1 ⟨v,H1,I1,rv,q1⟩=>aT (ho p s1 σ H1 _ I1 q1) fun u s2 ⟨x,H2,I2,rx,q2⟩=>aT (hi p s2 σ H2 _ I2 q2) fun iv s3 hZ81=> ?_) hs
 obtain ⟨y,H3,I3,ry,a,H4,ex,g,q3⟩:=hZ81
 subst ex
 obtain rfl:u=Value.ref a:=rx
 exact wM hu I3 g ry rv fun s4 I4=>⟨σ,H4,I4,q3⟩
end
theorem yd {P:Program}{w:World}{H:Hp}(h:Heap)(hb:sysModules < h.objs.size):ObjOk P w H (h.push { cls:= .type "dict",data:= .dict #[] }) h.objs.size (.dT []):=
 (Gb (Nat.zero_le _) (beq_eq_false_iff_ne.mpr (Ne.symm (Nat.ne_of_lt hb))) ([]) .nil _ (#[]) 0 (Heap.get?_push_size _ rfl) ⟨rfl,rfl,rfl⟩ rfl rfl List.nodup_nil)
noncomputable def EU:TE:=fun _ H Q=>∀ p,H p=none→Q (.ref p) (br H p (.dT []))
section
variable{X:Cx}{pos:Pos}
theorem zh:PE X (.Dict [] [] pos) EU:=fun pins s σ H Q I h=>
 wpAny_Dict_empty ⟨.ref s.heap.objs.size,_,I.laid (a:=s.heap.objs.size) (o:= .dT []) (t':=s.toks) (fun _ _ q=>Heap.get?_push_of_some _ q) (Nat.le_refl _) (yd s.heap I.big),rfl,h _ (I.hok.fresh (Nat.le_refl _))⟩
end
section
variable{X:Cx}{pins:List (Addr×Obj)}{σ:St}{H:Hp}{s:Shared}{a:Addr}{y d:V}{u r:Value}{o:Option V}{A:Around}{E:Value→Shared→Prop}
end
section
variable{X:Cx}{o e f:Expr}{apos cpos:Pos}{td ty tx:TE}
end
section
variable{X:Cx}{pins:List (Addr×Obj)}{σ:St}{H:Hp}{s:Shared}{a:Addr}{kvs:List (bH×V)}{A:Around}{E:Value→Shared→Prop}
end
section
variable{X:Cx}{pins:List (Addr×Obj)}{σ:St}{H:Hp}{s:Shared}{a:Addr}{y:V}{u:Value}{A:Around}{E:Value→Shared→Prop}
end
end L2
namespace Att
open PySem PySem.W PySem.Calls PyProof.Rows
section
variable{prog:Program}{w:World}{A:Around}{E:Value→Shared→Prop}{s:Shared}{K:Frag}
end
end Att
namespace L2
open PySem PySem.Spec PyProof.Rows
section
variable{P:Program}{w:World}{K:W.Frag}{mg:Str→Option Value}{base:Heap}
end
section
variable{X:Cx}
end
section
variable{κ:Type}[DecidableEq κ]
end
theorem HOk.onto {P:Program}{w:World}{H:Hp}{h1 h2:Heap}(x:HOk P w H h1)(k:∀ b o u,H b=some u→h1.get? b=some o→h2.get? b=some o):HOk P w H h2:=fun a o e=>
 (x a o e).stay (fun b u hb q=>by
  rcases hb with rfl | hb
  ·exact k b u _ e q
  ·exact k b u _ hb q) (fun _ q=>q) fun _ _ q=>q
theorem ObjOk.at {P:Program}{w:World}{H:Hp}{h:Heap}{a:Addr}{o:HO}(x:ObjOk P w H h a o):∃ ob,h.get? a=some ob:=by
 cases o with
 | lst xs=>refine xM (x) fun _ _ _ _ e=> ?_; exact ⟨_,e⟩
 | tup xs=>refine t8 (x) fun _ _ _ p=> ?_; obtain ⟨o,e,_⟩:=p; exact ⟨o,e⟩
 | dK kvs=>refine vc (x) fun _ _ _ _ o _ _ e _=> ?_; exact ⟨o,e⟩
 | dT kvs=>refine vc (x) fun _ _ _ _ o _ _ e _=> ?_; exact ⟨o,e⟩
 | set S n=>refine Ff (x) fun o _ _ _ e _=> ?_; exact ⟨o,e⟩
 | ins C dx fs=>refine rH (x) fun _ _ _ e _=> ?_; exact ⟨_,e⟩
 | own y=>exact x
 | xd fs=>obtain ⟨_,⟨o,_,_,e,_⟩,_⟩:=x; exact ⟨o,e⟩
 | rng lo hi=>refine Cf (x) fun _ _ _ e=> ?_; exact ⟨_,e⟩
 | frz ob u=>obtain ⟨e,_⟩:=x; exact ⟨ob,e⟩
 | tbl ps=>exact ⟨_,(show h.get? a=some _ from x)⟩
 | met f y=>exact ⟨_,(show h.get? a=some _ from x)⟩
 | ext φ=>obtain ⟨_,e,_⟩:=x; exact e
inductive CXF (P:Program)(w:World)(outer:List Env)(H:Hp)(s:Shared)(E:XK)(ev:Value)(s':Shared):Prop
 | mk (e:Addr) (cls a0:Value) (B:Heap) (H':Hp) (h1:ev= .ref e) (h2:s'.os=s.os) (h3:AllBare s'.gens)
  (h4:Un (jR outer) [] H H' s.heap s'.heap) (h5:HOk P w H' s'.heap) (h6:Heap.FlyingW B outer e cls a0 s'.heap)
  (h7:∀ b o,s'.heap.get? b=some o→b∉jR outer→((∃ u,H' b=some u)∨∃ o',s.heap.get? b=some o')→B.get? b=some o)
  (h8:H' e=none) (h9:s.heap.get? e=none) (q:E cls none H')
section
variable{X:Cx}{pins:List (Addr×Obj)}{σ:St}{H:Hp}{s:Shared}
theorem iU {P:Program}{w:World}{K:W.Frag}{mg:Str→Option Value}{base:Heap}{N:List Str}{qual:Str}{scope:Scope}{f:Addr}{cd:Value}{A:Around}{outer:List Env}{s₀:Shared}{H₀:Hp}{E E':XK}
  (he:∀ c a H,E' c a H→E c a H) :
  cP (CXF P w) (r9 (CXF P w) P w K mg base N qual scope f cd A outer s₀ H₀ E) E':=by
 intro pins σ H s ev s' I h
 obtain ⟨e,cls,a0,B,H',rfl,os,bare,un,hok,fl,cov,hn,hs,q⟩:=h
 have Y:∀ {b:Addr} {o:Obj},s₀.heap.get? b=some o→b≠s₀.heap.objs.size:=fun e=>Nat.ne_of_lt (Heap.lt_size e)
 have Q:jR (envOfC qual scope s₀.heap.objs.size f cd :: outer)=s₀.heap.objs.size :: jR outer:=rfl
 have hfr:∀ b∈jR (envOfC qual scope s₀.heap.objs.size f cd :: outer),∀ o,s'.heap.get? b=some o→∀ vs,o.data≠ .fields vs:=fun b r o eo=>by
  refine t8 (fl.2.2.1.mem r) fun _ o' e' h=> ?_
  rw [eo] at e'; cases e'
  exact h
 have Ib:=I.base
 have U:∀ b:Addr,b∉(r9 (CXF P w) P w K mg base N qual scope f cd A outer s₀ H₀ E).ex:=fun b z=>absurd (show b∈([]:List Addr) from z) (by simp)
 have nL:H' s₀.heap.objs.size=none:=by
  obtain ⟨m,⟨o,_,_,ho,_⟩,_⟩:=I.loc
  exact un.free _ o ho I.free (by simp)
 show wpAny _ _ (leaving _ (.ref e)) _ _ s'
 refine wpAny_leaves_onW (base:=B) I.ok.frames rfl fl fun h2 fl2 up=> ?_
 have R:∀ b o,s'.heap.get? b=some o→b∉jR outer→b≠s₀.heap.objs.size→((∃ u,H' b=some u)∨∃ o',s.heap.get? b=some o')→h2.get? b=some o:=fun b o i nb nl hh=>
  fl2.1 b o (cov b o i (by show b∉s₀.heap.objs.size :: jR outer; simp [nl,nb]) hh)
 have X:∀ b o,s'.heap.get? b=some o→b∈jR outer→∃ sl,h2.get? b=some { o with slots:=sl }:=fun b o i r=>
  up b o i (hfr b (by rw [Q]; exact cN r) o i)
 have T:∀ b o,s₀.heap.get? b=some o→∃ V,s.heap.get? b=some V:=fun b o S=>Ib.there b o S (U b)
 have hUn:Un (jR outer) [] H₀ H' s₀.heap h2:={
  keep:=fun b o S n r _=>by
   have i:=Ib.keep b o S n r (U b)
   have n1:=Ib.free b o S n (U b)
   have hb2:b∉jR (envOfC qual scope s₀.heap.objs.size f cd :: outer):=by rw [Q]; simp [Y S,r]
   exact R b o (un.keep b o i n1 hb2 (by simp)) r (Y S) (.inr ⟨o,i⟩)
  slot:=fun b o S n r _=>by
   obtain ⟨s1,i⟩:=Ib.slot b o S n r (U b)
   have n1:=Ib.free b o S n (U b)
   obtain ⟨s2,p⟩:=un.any i n1 (by simp)
   obtain ⟨s3,e3⟩:=X b _ p r
   exact ⟨s3,e3⟩
  free:=fun b o S n _=>by
   obtain ⟨V,i⟩:=T b o S
   exact un.free b V i (Ib.free b o S n (U b)) (by simp)
  there:=fun b o S _=>by
   obtain ⟨V,i⟩:=T b o S
   obtain ⟨o2,p⟩:=un.there b V i (by simp)
   by_cases r:b∈jR outer
   ·obtain ⟨s3,e3⟩:=X b o2 p r
    exact ⟨_,e3⟩
   ·exact ⟨o2,R b o2 p r (Y S) (.inr ⟨V,i⟩)⟩
  tups:=fun b xs q=>un.tups b xs (Ib.tups b xs q)
  frzs:=fun b o u q=>un.frzs b o u (Ib.frzs b o u q)
  tbls:=fun b ps q=>by
   obtain ⟨m1,i⟩:=Ib.tbls b ps q
   obtain ⟨m2,p⟩:=un.tbls b _ i
   exact ⟨m1 ++ m2,by rw [p,Array.append_assoc]⟩ }
 have frf':∀ b u,H' b=some u→b∉jR outer∧b≠s₀.heap.objs.size:=fun b u i=>by
  refine ⟨fun r=> ?_,fun z=>by rw [z,nL] at i; cases i⟩
  have n0:H b=none:=I.stkFree b (by show b∈jR (envOfC qual scope s₀.heap.objs.size f cd :: outer); rw [Q]; exact cN r)
  refine t8 (I.stack.mem (show b∈jR (envOfC qual scope s₀.heap.objs.size f cd :: outer) by rw [Q]; exact cN r)) fun _ o eo _=> ?_
  rw [un.free b o eo n0 (by simp)] at i; cases i
 have hok2:HOk P w H' h2:=hok.onto fun b o u r eo=>R b o eo (frf' b u r).1 (frf' b u r).2 (.inl ⟨u,r⟩)
 have cov2:∀ b o,h2.get? b=some o→b∉jR outer→((∃ u,H' b=some u)∨∃ o',s₀.heap.get? b=some o')→B.get? b=some o:=fun b o p r hh=>by
  rcases hh with ⟨u,hu⟩ | ⟨o0,S⟩
  ·obtain ⟨V,i⟩:=(hok b u hu).at
   have z:=R b V i (frf' b u hu).1 (frf' b u hu).2 (.inl ⟨u,hu⟩)
   rw [p] at z; cases z
   exact cov b o i (by show b∉s₀.heap.objs.size :: jR outer; simp [r,(frf' b u hu).2]) (.inl ⟨u,hu⟩)
  ·obtain ⟨V,i⟩:=T b o0 S
   obtain ⟨o2,e3⟩:=un.there b V i (by simp)
   have z:=R b o2 e3 r (Y S) (.inr ⟨V,i⟩)
   rw [p] at z; cases z
   exact cov b o e3 (by show b∉s₀.heap.objs.size :: jR outer; simp [r,Y S]) (.inr ⟨V,i⟩)
 refine ⟨e,cls,a0,B,H',rfl,os.trans I.os,bare,hUn,hok2,fl2,cov2,hn,?_,he _ _ _ q⟩
 cases z:s₀.heap.get? e with
 | none=>rfl
 | some o=>
  obtain ⟨V,i⟩:=T e o z
  rw [hs] at i; cases i
end
section
variable{X:Cx}
end
section
variable{X:Cx}{pins:List (Addr×Obj)}{σ:St}{H H':Hp}{s:Shared}
noncomputable def Hr (e:Addr)(cls:Value):HO:= .ext fun h=>∃ o,h.get? e=some o∧o.cls=cls
end
noncomputable def hZ (cells:List (Str×Addr)):List (Str×NameKind)→List (Str×Addr)→List (Str×Addr)
 | [],cs=>cs
 | (n,k) :: r,cs=>hZ cells r (if k == .free then (match cells.lookup n with | some c=>(n,c) :: cs | none=>cs) else cs)
theorem jD {scope:Scope}{env:Env}(h:∀ y∈scope.names,y.2= .free→∃ c,env.cells.lookup y.1=some c):closureFor scope env=pure (hZ env.cells scope.names []):=by
 unfold closureFor
 have go:∀ (l:List (Str×NameKind)) (cs:List (Str×Addr)),(∀ y∈l,y.2= .free→∃ c,env.cells.lookup y.1=some c)→
   (forIn l cs fun x r=>if (x.2 == NameKind.free)=true then do let c ← cellOf env x.1; pure (ForInStep.yield ((x.1,c) :: r)) else pure (ForInStep.yield r):Sem (List (Str×Addr)))=pure (hZ env.cells l cs):=by
  intro l
  induction l with
  | nil=>intro cs _; rfl
  | cons x r ih=>
   intro cs hl
   obtain ⟨n,k⟩:=x
   rw [List.forIn_cons]
   by_cases hk:k= .free
   ·subst hk
    obtain ⟨c,hc⟩:=hl (n,.free) List.mem_cons_self rfl
    have hc':env.cells.lookup n=some c:=hc
    have e:cellOf env n=pure c:=by unfold cellOf; rw [hc']
    simp only [beq_self_eq_true,if_true,e,pure_bind,hZ,hc']
    exact ih _ fun y hy=>hl y (cN hy)
   ·have e:(k == NameKind.free)=false:=by simpa using hk
    simp only [e,Bool.false_eq_true,if_false,pure_bind,hZ]
    exact ih _ fun y hy=>hl y (cN hy)
 have:=go scope.names [] h
 simpa using this
theorem j9 {cells:List (Str×Addr)}:∀ {l:List (Str×NameKind)} {cs:List (Str×Addr)} {x:Str} {c:Addr},(hZ cells l cs).lookup x=some c→(∀ y d,cs.lookup y=some d→cells.lookup y=some d)→cells.lookup x=some c
 | [],cs,x,c,h,hs=>hs x c h
 | (n,k) :: r,cs,x,c,h,hs=>by
  unfold hZ at h
  refine j9 h ?_
  intro y d e
  split at e
  ·split at e
   ·rename_i c' hc'
    rw [List.lookup_cons] at e
    split at e
    ·rename_i hy
     cases e
     have hy':y=n:=by simpa using hy
     rw [hy']; exact hc'
    ·exact hs y d e
   ·exact hs y d e
  ·exact hs y d e
theorem ph {cells:List (Str×Addr)}:∀ {l:List (Str×NameKind)} {cs:List (Str×Addr)} {x:Str},(∃ c,cs.lookup x=some c)→∃ c,(hZ cells l cs).lookup x=some c
 | [],cs,x,h=>h
 | (n,k) :: r,cs,x,⟨c,h⟩=>by
  unfold hZ
  refine ph ?_
  split
  ·split
   ·rw [List.lookup_cons]
    split
    ·exact ⟨_,rfl⟩
    ·exact ⟨c,h⟩
   ·exact ⟨c,h⟩
  ·exact ⟨c,h⟩
theorem m7 {cells:List (Str×Addr)}:∀ {l:List (Str×NameKind)} {cs:List (Str×Addr)} {x:Str},(x,NameKind.free)∈l→(∃ c,cells.lookup x=some c)→∃ c,(hZ cells l cs).lookup x=some c
 | (n,k) :: r,cs,x,hm,⟨c,hc⟩=>by
  rcases List.mem_cons.mp hm with e | hm
  ·cases e
   unfold hZ
   refine ph ?_
   rw [if_pos (by rfl),hc]
   exact ⟨c,by rw [List.lookup_cons]; simp⟩
  ·unfold hZ
   exact m7 hm ⟨c,hc⟩
theorem en {env:Env}:∀ {names:List (Str×NameKind)} {x:Str} {k:NameKind},(∀ y∈names,y.2≠ .cell)→
  (names.map fun (n,k)=>if (k == NameKind.free && env.scope.kind == .function && env.kindOf n == some .cell) then (n,NameKind.cell) else (n,k)).lookup x=some k→(k= .cell∨k= .free)→(x,NameKind.free)∈names
 | [],_,_,_,h,_=>by simp at h
 | (n,k0) :: r,x,k,hc,h,hk=>by
  have ih:= @en env r x k (fun y hy=>hc y (cN hy))
  rw [List.map_cons,List.lookup_cons] at h
  by_cases c:(k0 == NameKind.free && env.scope.kind == .function && env.kindOf n == some .cell)=true
  ·have hf:k0= .free:=by
    simp only [Bool.and_eq_true,beq_iff_eq] at c
    exact c.1.1
   subst hf
   rw [if_pos c] at h
   dsimp only at h
   split at h
   ·rename_i hy
    have:x=n:=by simpa using hy
    subst this
    exact List.mem_cons_self
   ·exact cN (ih h hk)
  ·rw [if_neg c] at h
   dsimp only at h
   split at h
   ·rename_i hy
    have:x=n:=by simpa using hy
    subst this
    cases h
    rcases hk with rfl | rfl
    ·exact absurd rfl (hc (x,.cell) List.mem_cons_self)
    ·exact List.mem_cons_self
   ·exact cN (ih h hk)
theorem kM {env:Env}:∀ {names:List (Str×NameKind)} {x:Str},names.lookup x=some .free→
  (names.map fun (n,k)=>if (k == NameKind.free && env.scope.kind == .function && env.kindOf n == some .cell) then (n,NameKind.cell) else (n,k)).lookup x=some .cell∨
  (names.map fun (n,k)=>if (k == NameKind.free && env.scope.kind == .function && env.kindOf n == some .cell) then (n,NameKind.cell) else (n,k)).lookup x=some .free
 | [],_,h=>by simp at h
 | (n,k0) :: r,x,h=>by
  have ih:= @kM env r x
  rw [List.lookup_cons] at h
  rw [List.map_cons,List.lookup_cons]
  by_cases c:(k0 == NameKind.free && env.scope.kind == .function && env.kindOf n == some .cell)=true
  ·rw [if_pos c]
   dsimp only
   split at h
   ·exact .inl rfl
   ·exact ih h
  ·rw [if_neg c]
   dsimp only
   split at h
   ·exact .inr h
   ·exact ih h
noncomputable abbrev Cx.comp (X:Cx)(s:Shared)(H:Hp)(scope:Scope)(C:Addr)(N:List Str)(ex:List Addr):Cx:=
 { X with N:=N,s₀:=s,H₀:=H,env:=compEnvC scope (hZ X.env.cells scope.names []) C X.env,outer:=X.stack,stack:=X.stack,ex:=ex,fn:=fun _=>false,pn:=[],xe:=fun _ _=>False }
structure CompSc (X:Cx)(scope:Scope)(N:List Str)(caps:List (Option Nat)):Prop where
 kind:scope.kind= .function
 nocell:∀ y∈scope.names,y.2≠ .cell
 names:∀ y∈scope.names,y.2= .local→scope.names.lookup y.1=some .local
 free:∀ y∈scope.names,y.2= .free→X.env.scope.names.lookup y.1=some .cell∨X.env.scope.names.lookup y.1=some .free
 nd:N.Nodup
 len:caps.length=N.length
 capf:∀ (j k:Nat) (x:Str),caps[j]?=some (some k)→N[j]?=some x→scope.names.lookup x=some .free
 cap:∀ (j k:Nat) (x:Str),caps[j]?=some (some k)→N[j]?=some x→X.N[k]?=some x∧(X.env.scope.names.lookup x=some .cell∨X.env.scope.names.lookup x=some .free)
noncomputable def fj (caps:List (Option Nat))(σ:St):St:=caps.map fun o=>o.bind fun k=>(σ[k]?).join
theorem pf {caps:List (Option Nat)}{σ:St}{j:Nat}{v:V}(h:(fj caps σ)[j]?=some (some v)):∃ k,caps[j]?=some (some k)∧σ[k]?=some (some v):=by
 unfold fj at h
 rw [List.getElem?_map] at h
 cases e:caps[j]? with
 | none=>rw [e] at h; cases h
 | some o=>
  rw [e] at h
  cases o with
  | none=>simp at h
  | some k=>
   refine ⟨k,rfl,?_⟩
   simp only [Option.map_some,Option.bind_some] at h
   cases e2:σ[k]? with
   | none=>rw [e2] at h; simp at h
   | some o2=>rw [e2] at h; simp at h; rw [h]
section
variable{X:Cx}{pins:List (Addr×Obj)}{σ:St}{H:Hp}{s:Shared}{scope:Scope}{N:List Str}{caps:List (Option Nat)}
theorem Inv.comp {h₁:Heap}{C:Addr}{fp:List Addr}{t':Nat}(I:Inv X pins σ H s)(S:CompSc X scope N caps)(hC:s.heap.objs.size≤C)(hf:∀ b∈fp,iO X pins H b)(hfp:∀ b∈fp,b < s.heap.objs.size)
  (old:∀ b o,s.heap.get? b=some o→h₁.get? b=some o) (ns:∃ m,h₁.Ns C m):Inv (X.comp s H scope C N fp) [] (fj caps σ) H { s with heap:=h₁,toks:=t' }:=by
 have Y:∀ x c,(hZ X.env.cells scope.names []).lookup x=some c→X.env.cells.lookup x=some c:=fun x c e=>j9 e (fun y d z=>by simp at z)
 have hsub:=I.stkSub
 obtain ⟨m1,hn1⟩:=ns
 have notC:∀ {b:Addr},b < s.heap.objs.size→b≠C:=fun hb=>Nat.ne_of_lt (Nat.lt_of_lt_of_le hb hC)
 have hasF:∀ x,(x,NameKind.free)∈scope.names→∃ c,X.env.cells.lookup x=some c:=fun x hx=>I.ok.has x (S.free (x,.free) hx rfl)
 refine ⟨⟨I.ok.mod,S.kind,I.ok.glob,I.ok.blt,hC,fun x y c e1 e2=>I.ok.inj x y c (Y x c e1) (Y y c e2),fun x hx=> ?_,fun x c hx=>Bool.noConfusion hx,I.ok.hd,I.ok.frames,.inl rfl,fun b hb=>⟨notC (hfp b hb),fun x c e=>(hf b hb).2.2.2.2.1 x c (Y x c e)⟩,I.bs,Nat.le_trans I.ok.bsz I.sz,fun b o e hb=> ?_,fun b hb z=> ?_,I.stack,I.stkFree⟩,
  rfl,I.bare,Un.kept old,⟨m1,hn1,fun j y v e1 e2 e3=> ?_⟩,fun x c e=> ?_,I.hok.fresh hC,fun x c e=>I.freeC x c (Y x c e),fun p hp=>absurd (show p∈([]:List (Addr×Obj)) from hp) (by simp),I.hok.kept old,by rw [show (fj caps σ).length=caps.length by simp [fj]]; exact S.len⟩
 ·have hx':(relabel scope X.env).names.lookup x=some .cell∨(relabel scope X.env).names.lookup x=some .free:=hx
  have hm:(x,NameKind.free)∈scope.names:=by
   rcases hx' with e | e
   ·exact en S.nocell e (.inl rfl)
   ·exact en S.nocell e (.inr rfl)
  exact m7 hm (hasF x hm)
 ·refine rH (hf b hb) fun f0 f1 f2 f3 _=> ?_
  rcases f3 with z | z
  ·exact I.ok.noex b o e z
  ·exact absurd (Nat.lt_of_lt_of_le (Heap.lt_size e) (Nat.le_trans I.ok.bsz z)) (Nat.lt_irrefl _)
 ·refine lP (hf b hb) fun f0 f1 f2 _=> ?_
  rcases List.mem_cons.mp (hsub b z) with e | e
  ·exact f1 e
  ·exact f2 e
 ·obtain ⟨k,c1,c2⟩:=pf e2
  obtain ⟨c3,c4⟩:=S.cap j k y c1 e1
  obtain ⟨m,hn,hl⟩:=I.loc
  obtain ⟨u,r,l⟩:=hl k y v c3 c2 (by rcases c4 with z | z; exact .inr (.inl z); exact .inr (.inr z))
  refine ⟨u,r,.inr ?_⟩
  have hv:(relabel scope X.env).names.lookup y=some .cell∨(relabel scope X.env).names.lookup y=some .free:=kM (S.capf j k y c1 e1)
  have hm:(y,NameKind.free)∈scope.names:=by
   rcases hv with e | e
   ·exact en S.nocell e (.inl rfl)
   ·exact en S.nocell e (.inr rfl)
  obtain ⟨c,hc⟩:=m7 (cells:=X.env.cells) (cs:=[]) hm (hasF y hm)
  refine (oG hv c hc ?_)
  rcases l with ⟨k1,_⟩ | ⟨_,c',hc',z⟩
  ·exfalso
   have k1':X.env.scope.names.lookup y=some .local:=k1
   rcases c4 with z | z <;> (rw [k1'] at z; cases z)
  ·rw [Y y c hc] at hc'
   cases hc'
   obtain ⟨o,eo,d⟩:=z
   exact ⟨o,old _ _ eo,d⟩
 ·refine mf (I.cell x c (Y x c e)) fun v o eo d=> ?_
  exact (mi v o (old _ _ eo) d)
end
section
variable{prog:Program}{w:World}{A:Around}{E:Value→Shared→Prop}{R:Result→Shared→Prop}{s:Shared}
theorem wJ {elt target iter:Expr}{ifs:List Expr}{scope:Scope}{pos:Pos}{it acc:Value}{env:Env}(I:Nat→Shared→Prop)
  (turn:∀ n s,I n s→wpAny (model prog w) A (pyNext it) (fun r s₁=>match r with
   | none=>R (.ok .next) s₁
   | some v=>wpAny (model prog w) A (letOwnedTupleGo target it v) (fun _ s₁'=>wpAny (model prog w) A (assign target env v) (fun _ s₂=>
     wpAny (model prog w) A (forIn ifs true fun c r=>if r=true then do let ok ← isTrue c env (eval c env); pure (ForInStep.yield ok) else pure (ForInStep.yield r)) (fun ok s₃=>
      if ok=true then wpAny (model prog w) A (eval elt env) (fun x s₄=>
       wpAny (model prog w) A (call (.builtin "list.append") [acc,x]) (fun _ s₅=>∃ m,m < n∧I m s₅) (notedBy (model prog w) A env fun e s'=>R (.error e) s') s₄) (notedBy (model prog w) A env fun e s'=>R (.error e) s') s₃
      else ∃ m,m < n∧I m s₃) (notedBy (model prog w) A env fun e s'=>R (.error e) s') s₂) (notedBy (model prog w) A env fun e s'=>R (.error e) s') s₁') (notedBy (model prog w) A env fun e s'=>R (.error e) s') s₁) (notedBy (model prog w) A env fun e s'=>R (.error e) s') s)
  (n:Nat) (h:I n s) :
  codeAny (model prog w) A (.compLoop (.ListComp elt [⟨target,iter,ifs,0⟩] scope pos) 0 it acc env) R s:=by
 refine codeAny_loop rfl I (fun n s hI=> ?_) n h
 show wpAny _ A ((compTurn (.ListComp elt [⟨target,iter,ifs,0⟩] scope pos) 0 it acc env).onRaise (fun x=>do noteFrame x env; theTreesLotGoes x)) _ _ s
 refine wpAny_noted ?_
 rw [compTurn_list]
 refine wpAny_bind (wpAny_standAt (wpAny_bind (wpAny_mono (turn n s hI) (fun r s₁ h₁=> ?_) fun _ _ F=>F)))
 cases r with
 | none=>exact wpAny_pure h₁
 | some v=>
  refine wpAny_bind (wpAny_mono h₁ (fun _ s₁' h₁'=> ?_) fun _ _ F=>F)
  refine wpAny_bind (wpAny_mono h₁' (fun _ s₂ h₂=>wpAny_bind (wpAny_mono h₂ (fun ok s₃ h₃=> ?_) fun _ _ F=>F)) fun _ _ F=>F)
  cases ok with
  | false=>exact wpAny_pure ⟨rfl,h₃⟩
  | true=>
   exact wpAny_bind (wpAny_bind (wpAny_mono h₃ (fun x s₄ h₄=>wpAny_bind (wpAny_mono h₄ (fun _ s₅ h₅=>wpAny_pure (wpAny_pure ⟨rfl,h₅⟩)) fun _ _ F=>F)) fun _ _ F=>F))
end
noncomputable def Fk (X:Cx)(ifs:List Expr)(t:TT):Prop:=
 ∀ (pins:List (Addr×Obj)) (s:Shared) (σ:St) (H:Hp) (Q:Bool→Hp→Prop),Inv X pins σ H s→t σ H Q→
  wpAny (model X.prog X.w) X.A (forIn ifs true fun c r=>if r=true then do let ok ← isTrue c X.env (eval c X.env); pure (ForInStep.yield ok) else pure (ForInStep.yield r)) (TP X pins σ Q) X.xe s
theorem BG {X:Cx}:Fk X [] (fun _ H Q=>Q true H):=fun _ _ _ H _ I h=>wpAny_tests_nil ⟨H,I,h⟩
theorem BH {X:Cx}{c:Expr}{t:TT}(h:PT X c t):Fk X [c] t:=fun pins s σ H Q I q=>wpAny_tests_one (h pins s σ H Q I q)
noncomputable def zQ (wi:TI)(caps:List (Option Nat))(g:TG)(tc:TT)(te:TE):TE:=fun σ H Q=>wi σ H fun J H1=>∃ W:Nat→Nat→List V→Hp→Prop,(∃ m,W 0 m [] H1)∧∀ i m ys H2,W i m ys H2→
 (J.stop i H2∧ys.length≤sizeLine∧∀ p,H2 p=none→Q (.ref p) (br H2 p (.lst ys)))∨
 (J.go i H2∧∃ Nx:List V→Hp→Prop,(∀ ys' H',Nx ys' H'→∃ m',m' < m∧W (i+1) m' ys' H')∧
  ∀ x H',J.yld i H2 x H'→g x (fj caps σ) H' fun σ2 H3=>tc σ2 H3 fun b H4=>if b=true then ys.length≤sizeLine∧te σ2 H4 (fun y H5=>Nx (ys ++ [y]) H5) else Nx ys H4)
section
variable{X:Cx}{pins:List (Addr×Obj)}{σ:St}{H:Hp}{s:Shared}{scope:Scope}{N:List Str}{caps:List (Option Nat)}
noncomputable abbrev kz (us:List Value):Obj:={ cls:= .type "list",data:= .seq us.toArray us.length }
theorem xq (ys:List Value)(y:Value):({ cls:= .type "list",data:= .seq (ys.toArray.push y) (ys.length+1) }:Obj)=kz (ys ++ [y]):=by
 show ({ cls:= .type "list",data:= .seq (ys.toArray.push y) (ys.length+1) }:Obj)={ cls:= .type "list",data:= .seq (ys ++ [y]).toArray (ys ++ [y]).length }
 rw [List.length_append,List.length_singleton,List.push_toArray]
noncomputable def j5 (caps:List (Option Nat))(g:TG):Prop:=∀ x σ0 H Q,g x σ0 H Q→g x σ0 H fun σ2 H2=>Q σ2 H2∧σ2.length=σ0.length∧∀ (j k:Nat) (v:V),caps[j]?=some (some k)→σ0[j]?=some (some v)→σ2[j]?=some (some v)
theorem kE {i:Nat}(h:caps[i]?=some none):j5 caps (b_ i):=fun x σ0 H Q q=>by
 refine ⟨q,by simp,fun j k v hj hv=> ?_⟩
 have:j≠i:=fun z=>by rw [z,h] at hj; cases hj
 rw [List.getElem?_set_ne (Ne.symm this)]
 exact hv
theorem m9 {elt tg iter:Expr}{ifs:List Expr}{pos:Pos}{it:Addr}{fp:List Addr}{tn:Nat→Heap→Prop}{J:It}{g:TG}{tc:TT}{te:TE}{RR:Value→Addr→Result→Shared→Prop}{E:Value→Shared→Prop}
  (hc:X.calm=true) (I:Inv X pins σ H s) (S:CompSc X scope N caps) (T:Turn X.prog X.w X.K tg J fp it tn) (st:tn 0 s.heap) (hf:∀ b∈fp,iO X pins H b)
  (hg:∀ C ex,PG (X.comp s H scope C N ex) tg g) (ho:j5 caps g) (ht:∀ C ex,Fk (X.comp s H scope C N ex) ifs tc) (he:∀ C ex,PE (X.comp s H scope C N ex) elt te)
  (W:Nat→Nat→List V→Hp→Prop) (m0:Nat) (w0:W 0 m0 [] H) {Q:VK}
  (turn:∀ i m ys H2,W i m ys H2→(J.stop i H2∧ys.length≤sizeLine∧∀ p,H2 p=none→Q (.ref p) (br H2 p (.lst ys)))∨
   (J.go i H2∧∃ Nx:List V→Hp→Prop,(∀ ys' H',Nx ys' H'→∃ m',m' < m∧W (i+1) m' ys' H')∧
    ∀ x H',J.yld i H2 x H'→g x (fj caps σ) H' fun σ2 H3=>tc σ2 H3 fun b H4=>if b=true then ys.length≤sizeLine∧te σ2 H4 (fun y H5=>Nx (ys ++ [y]) H5) else Nx ys H4))
  (hRR:∀ (D C:Addr) (s':Shared) (m:Str→Option Value) (H':Hp),s'.heap.Ns C m→Inv X pins σ H' s'→iO X pins H' C→Q (.ref D) H'→RR (.ref D) C (.ok .next) s') :
  wpAny (model X.prog X.w) X.A (newList []) (fun acc s₃=>wpAny (model X.prog X.w) X.A (newFunctionEnv scope X.env.globals (hZ X.env.cells scope.names []) [] X.env.qual none .none (some X.env)) (fun cenv s₄=>
   codeAny (model X.prog X.w) X.A (.compStart (.ListComp elt [⟨tg,iter,ifs,0⟩] scope pos) 0 (.ref it) acc { cenv with scope:=relabel scope X.env }) (RR acc cenv.locals) s₄) E s₃) E s:=by
 refine wpAny_newObj_type (wpAny_newFunctionEnv S.nocell (by intro y hy; simp at hy) (fun f a Y=> ?_) S.kind)
 dsimp only at a Y ⊢
 generalize hH2:s.heap.push { cls:= .type "list",dict:=none,data:= .seq ([]:List Value).toArray }=H2 at a Y ⊢
 have hC:H2.objs.size=s.heap.objs.size+1:=by rw [← hH2,Heap.size_push]
 have hDC:s.heap.objs.size≠H2.objs.size:=by rw [hC]; exact Nat.ne_of_lt (Nat.lt_succ_self _)
 have M:s.heap.objs.size≤H2.objs.size:=by rw [hC]; exact Nat.le_succ _
 have old:∀ b o,s.heap.get? b=some o→f.get? b=some o:=fun b o e=>
  Y.extBut b o (by rw [hC]; exact Nat.ne_of_lt (Nat.lt_succ_of_lt (Heap.lt_size e))) (Heap.get?_push_of_some _ (hH2 ▸ Heap.get?_push_of_some _ e))
 have hacc:f.get? s.heap.objs.size=some (kz []):=Y.extBut _ _ hDC (Heap.get?_push_of_some _ (hH2 ▸ Heap.get?_push_size _ rfl))
 have U:∀ b∈fp,b < s.heap.objs.size:=fun b t=>by
  obtain ⟨o,e,_⟩:=T.obj _ _ st b t
  exact Heap.lt_size e
 have P:tn 0 f:=T.keep _ _ _ st fun b t o e=>old b o e
 have I₁:Inv (X.comp s H scope H2.objs.size N fp) [] (fj caps σ) H { s with heap:=f,toks:=s.toks+([]:List (Str×Value)).length }:=I.comp S M hf U old ⟨_,a⟩
 have cne:∀ x c,(hZ X.env.cells scope.names []).lookup x=some c→c < s.heap.objs.size:=fun x c e=>by
  obtain ⟨v,z⟩:=I.cell x c (j9 e (fun y d z=>by simp at z))
  exact z.lt
 have nfs:∀ {b:Addr},s.heap.objs.size≤b→b∉jR X.stack:=fun t z=>by
  refine t8 (I.stack.mem z) fun _ o ho _=> ?_
  exact absurd (Nat.lt_of_lt_of_le (Heap.lt_size ho) t) (Nat.lt_irrefl _)
 -- what stays true of the iterator's and the gathered list's objects
 have Z:∀ {H':Hp},(∀ b∈fp,H' b=none)→∀ b∈fp,iO (X.comp s H scope H2.objs.size N fp) [] H' b:=fun hn b t=>
  ⟨hn b t,Nat.ne_of_lt (Nat.lt_of_lt_of_le (U b t) M),fun z=>(by
   refine lP (hf b t) fun f0 f1 f2 _=> ?_
   rcases List.mem_cons.mp (I.stkSub b z) with e | e
   ·exact f1 e
   ·exact f2 e),.inl t,fun x c e=>(hf b t).2.2.2.2.1 x c (j9 e (fun y d z=>by simp at z)),fun p R=>absurd (show p∈([]:List (Addr×Obj)) from R) (by simp)⟩
 have statD:∀ {H':Hp},H' s.heap.objs.size=none→iO (X.comp s H scope H2.objs.size N fp) [] H' s.heap.objs.size:=fun hn=>
  (FX hn hDC (nfs (Nat.le_refl _)) (.inr (Nat.le_refl _)) (fun x c e=>Nat.ne_of_lt (cne x c e)) (fun p R=>absurd (show p∈([]:List (Addr×Obj)) from R) (by simp)))
 have loop:∀ s₃:Shared,s₃={ s with heap:=f,toks:=s.toks+([]:List (Str×Value)).length }→
   codeAny (model X.prog X.w) X.A (.compLoop (.ListComp elt [⟨tg,iter,ifs,0⟩] scope pos) 0 (.ref it) (.ref s.heap.objs.size) (compEnvC scope (hZ X.env.cells scope.names []) H2.objs.size X.env))
    (RR (.ref s.heap.objs.size) H2.objs.size) s₃:=by
  rintro s₃ rfl
  refine wJ (fun n s'=>∃ i ys h H',Inv (X.comp s H scope H2.objs.size N fp) [] (fj caps σ) H' s'∧tn i s'.heap∧(∀ b∈fp,H' b=none)∧s'.heap.get? s.heap.objs.size=some (kz h)∧H' s.heap.objs.size=none∧Vals ys h∧W i n ys H') ?_ m0
   ⟨0,[],[],H,I₁,P,fun b t=>(hf b t).1,hacc,I.hok.fresh (Nat.le_refl _),.nil,w0⟩
  intro n s3 hZ1
  obtain ⟨i,ys,h,H3,I3,st3,fr3,ha3,hd3,rv3,w3⟩:=hZ1
  have pinD:∀ {B:St} {H':Hp} {s':Shared},Inv (X.comp s H scope H2.objs.size N fp) [] B H' s'→s'.heap.get? s.heap.objs.size=some (kz h)→H' s.heap.objs.size=none→Inv (X.comp s H scope H2.objs.size N fp) [(s.heap.objs.size,kz h)] B H' s':=fun I' e n=>
   I'.pins_of fun p R=>by
    obtain rfl:=List.mem_singleton.mp R
    exact (uw e n hDC (nfs (Nat.le_refl _)) (fun v z=>by cases z))
  have F:∀ {H':Hp},(∀ b∈fp,H' b=none)→∀ b∈fp,iO (X.comp s H scope H2.objs.size N fp) [(s.heap.objs.size,kz h)] H' b:=fun hn b t=>
   ⟨(Z hn b t).1,(Z hn b t).2.1,(Z hn b t).2.2.1,(Z hn b t).2.2.2.1,(Z hn b t).2.2.2.2.1,fun p R=>by
    obtain rfl:=List.mem_singleton.mp (show p∈[(s.heap.objs.size,kz h)] from R)
    exact Nat.ne_of_gt (U b t)⟩
  have I3':=pinD I3 ha3 hd3
  have atD:∀ {pl:List (Addr×Obj)} {B:St} {H':Hp} {s':Shared},Inv (X.comp s H scope H2.objs.size N fp) ([(s.heap.objs.size,kz h)] ++ pl) B H' s'→s'.heap.get? s.heap.objs.size=some (kz h)∧H' s.heap.objs.size=none:=fun {pl B H' s'} I'=>
   ⟨(I'.pin (s.heap.objs.size,kz h) (by simp)).1,(I'.pin (s.heap.objs.size,kz h) (by simp)).2.1⟩
  rcases turn i n ys H3 w3 with ⟨stop,hsz,fin⟩ | ⟨go,Nx,hN,step⟩
  ·refine aT (wpAny_noRaise (T.done (X.comp s H scope H2.objs.size N fp) rfl rfl rfl hc i [(s.heap.objs.size,kz h)] s3 _ H3 (fun _ _=>False) I3' (F fr3) st3 stop)) fun r s4 hZ82=> ?_
   obtain ⟨hr,I4⟩:=hZ82
   subst hr
   obtain ⟨ha4,G⟩:=atD (pl:=[]) I4
   obtain ⟨m4,hn4,_⟩:=id I4.loc
   have l:Un (jR X.stack) fp H H3 s.heap s4.heap:=I4.base
   have bC:∀ {b:Addr} {o:Obj},s.heap.get? b=some o→b≠H2.objs.size∧b≠s.heap.objs.size:=fun e=>⟨by rw [hC]; exact Nat.ne_of_lt (Nat.lt_succ_of_lt (Heap.lt_size e)),Nat.ne_of_lt (Heap.lt_size e)⟩
   have freeC:H3 H2.objs.size=none:=I4.free
   have un':Un (jR X.stack) fp H (br H3 s.heap.objs.size (.lst ys)) s.heap s4.heap:={
    keep:=fun b o e n t hx=>(l.keep b o e n t hx)
    slot:=fun b o e n t hx=>by
     obtain ⟨sl,z⟩:=l.slot b o e n t hx
     exact ⟨sl,z⟩
    free:=fun b o e n hx=>by rw [al (bC e).2]; exact l.free b o e n hx
    there:=fun b o e hx=>by
     obtain ⟨o',z⟩:=l.there b o e hx
     exact ⟨o',z⟩
    tups:=fun b xs q=>by
     have z:=l.tups b xs q
     rw [al (aF z G)]; exact z
    frzs:=fun b o u q=>by
     have z:=l.frzs b o u q
     rw [al (aF z G)]; exact z
    tbls:=fun b ps q=>by
     obtain ⟨mo,z⟩:=l.tbls b ps q
     exact ⟨mo,by rw [al (aF z G)]; exact z⟩ }
   have hok':HOk X.prog X.w (br H3 s.heap.objs.size (.lst ys)) s4.heap:=fun b u eb=>by
    by_cases t:b=s.heap.objs.size
    ·subst t; rw [aw] at eb; cases eb
     exact (nD hsz h _ rv3 ha4)
    ·rw [al t] at eb
     exact (I4.hok b u eb).stay (fun c v hcc q=>q) (fun c q=>by rw [al (aF q G)]; exact q) fun c xs q=>by rw [al (aF q G)]; exact q
   have I4':Inv X pins σ (br H3 s.heap.objs.size (.lst ys)) s4:=I.call' (ch:=fp) I4.os un' hok' I4.bare (fun b t=>(mj ((hf b t).2.2.2.1) ((hf b t).2.1) ((hf b t).2.2.2.2.1) ((hf b t).2.2.2.2.2)))
   exact hRR _ _ s4 m4 _ hn4 I4' (I.fpOk M (by rw [al (Ne.symm hDC)]; exact freeC)) (fin _ G)
  ·refine aT (wpAny_noRaise (T.item (X.comp s H scope H2.objs.size N fp) rfl rfl rfl hc i [(s.heap.objs.size,kz h)] s3 _ H3 (fun _ _=>False) I3' (F fr3) st3 go)) fun r s4 hZ83=> ?_
   obtain ⟨u,hr,h4⟩:=hZ83
   subst hr
   refine aT (wpAny_noRaise h4) fun _ s5 hZ84=> ?_
   refine Hc (hZ84) fun x H5 I5 r5 y5 st5 fr5=> ?_
   have I5':=I5.pinned (F fr5) (T.obj _ _ st5)
   refine aT (wpAny_noRaise (hg _ _ _ s5 _ H5 x u _ I5' r5 (ho _ _ _ _ (step x H5 y5)))) fun _ s6 hZ85=> ?_
   obtain ⟨σ6,H6,I6,q6,l6,k6⟩:=hZ85
   have O:∀ {pl:List (Addr×Obj)} {H':Hp} {s':Shared},Inv (X.comp s H scope H2.objs.size N fp) pl σ6 H' s'→Inv (X.comp s H scope H2.objs.size N fp) pl (fj caps σ) H' s':=fun I'=>I'.weak l6.symm fun j v e=>by
    obtain ⟨k,c1,c2⟩:=pf e
    exact k6 j k v c1 e
   refine aT (wpAny_noRaise (ht _ _ _ s6 σ6 H6 _ I6 q6)) fun b s7 hZ86=> ?_
   obtain ⟨H7,I7,q7⟩:=hZ86
   have L:∀ {B:St} {H':Hp} {s':Shared},Inv (X.comp s H scope H2.objs.size N fp) ([(s.heap.objs.size,kz h)] ++ nX fp s5.heap) B H' s'→tn (i+1) s'.heap∧∀ b∈fp,H' b=none:=fun {B H' s'} I'=>
    ⟨T.keep _ _ _ st5 fun b t o e=>(I'.pin (b,o) (List.mem_append_right _ (List.mem_append_right _ (ik t e)))).1,fun b t=>by
     obtain ⟨o,e,d⟩:=T.obj _ _ st5 b t
     exact (I'.pin (b,o) (List.mem_append_right _ (List.mem_append_right _ (ik t e)))).2.1⟩
   cases b with
   | false=>
    have q7':Nx ys H7:=q7
    obtain ⟨m',hm,w7⟩:=hN _ _ q7'
    obtain ⟨ha7,hd7⟩:=atD I7
    obtain ⟨st7,fr7⟩:=L I7
    exact (Gc m' hm (i+1) ys h H7 (O (I7.pins_of fun p R=>absurd R (by simp))) st7 fr7 ha7 hd7 rv3 w7)
   | true=>
    obtain ⟨hsz,q7'⟩:ys.length≤sizeLine∧te σ6 H7 (fun y H5=>Nx (ys ++ [y]) H5):=q7
    show wpAny _ _ (eval elt _) _ _ s7
    refine aT (wpAny_noRaise (he _ _ _ s7 σ6 H7 _ I7 q7')) fun yv s8 hZ87=> ?_
    obtain ⟨y,H8,I8,r8,q8⟩:=hZ87
    obtain ⟨ha8,hd8⟩:=atD I8
    obtain ⟨st8,fr8⟩:=L I8
    refine append_at ha8 (fun h9 sb hD9=> ?_) (by rw [List.size_toArray,← rv3.length]; exact hsz)
    obtain ⟨m',hm,w8⟩:=hN _ _ q8
    have I8':Inv (X.comp s H scope H2.objs.size N fp) [] (fj caps σ) H8 s8:=O (I8.pins_of fun p R=>absurd R (by simp))
    have dD:=statD hd8
    refine (Gc m' hm (i+1) (ys ++ [y]) (h ++ [yv]) H8 (I8'.turned (t':=s8.toks) (fun b o t e=>(sb.2 b t).trans e) hd8 dD.2.1 dD.2.2.2.1 dD.2.2.2.2.1 dD.2.2.2.2.2) (T.keep _ _ _ st8 fun b t o e=>(sb.2 b (Nat.ne_of_lt (U b t))).trans e) fr8 ?_ hd8 (rv3.append (.cons r8 .nil)) w8)
    rw [hD9,xq]
 exact codeAny_compStart_list (loop _ rfl) (T.self X.A 0 _ _ _ P (loop _ rfl))
theorem vZ {elt tg iter:Expr}{ifs:List Expr}{pos:Pos}{wi:TI}{g:TG}{tc:TT}{te:TE}(hc:X.calm=true)(S:CompSc X scope N caps)(hi:PI X tg iter wi)
  (hg:∀ s H C ex,PG (X.comp s H scope C N ex) tg g) (ho:j5 caps g) (ht:∀ s H C ex,Fk (X.comp s H scope C N ex) ifs tc) (he:∀ s H C ex,PE (X.comp s H scope C N ex) elt te)
  (hs:∀ x,foldedSetIterable iter X.env x=pure x:=by intro _; rfl):PE X (.ListComp elt [⟨tg,iter,ifs,0⟩] scope pos) (zQ wi caps g tc te):=by
 intro pins s σ H Q I h
 rw [eval_ListComp]
 have hcl:closureFor scope X.env=pure (hZ X.env.cells scope.names []):=jD fun y hy hk=>I.ok.has y.1 (S.free y hy hk)
 refine wpAny_comprehension_free (use:=none) rfl hs hcl S.kind S.names (aT (hi pins s σ H _ I h) fun v s1 h1=>aT h1 fun itv s2 h2=> ?_)
 obtain ⟨it,fp,tn,J,H2,e,I2,T,st2,f2,W,⟨m0,w0⟩,turn⟩:=h2
 subst e
 refine m9 (RR:=fun acc C=>compPost (model X.prog X.w) X.A X.xe none (EP X pins σ Q) acc C) hc I2 S T st2 f2 (hg _ _) ho (ht _ _) (he _ _) W m0 w0 turn ?_
 intro D C s' m H' hn I' fC q
 exact ⟨m,hn,fun h' sb=>⟨.ref D,H',I'.turned (t':=s'.toks) (fun b o hb e=>(sb.2 b hb).trans e) fC.1 fC.2.1 fC.2.2.2.1 fC.2.2.2.2.1 fC.2.2.2.2.2,rfl,q⟩⟩
theorem n9 {elt tg iter:Expr}{ifs:List Expr}{pos py spos:Pos}{wi:TI}{g:TG}{tc:TT}{te:TE}{y:Str}{i:Nat}(hN:X.N.Nodup)(hi:X.N[i]?=some y)(hy:X.env.scope.names.lookup y=some .local)
  (hc:X.calm=true) (S:CompSc X scope N caps) (hit:PI X tg iter wi)
  (hg:∀ s H C ex,PG (X.comp s H scope C N ex) tg g) (ho:j5 caps g) (ht:∀ s H C ex,Fk (X.comp s H scope C N ex) ifs tc) (he:∀ s H C ex,PE (X.comp s H scope C N ex) elt te)
  (hsw:swapsWith (.ListComp elt [⟨tg,iter,ifs,0⟩] scope pos) (some (.Name y py)) spos.line X.env=pure true:=by rfl)
  (hs:∀ x,foldedSetIterable iter X.env x=pure x:=by intro _; rfl):PS X (.Assign [.Name y py] (.ListComp elt [⟨tg,iter,ifs,0⟩] scope pos) spos) (rE (zQ wi caps g tc te) (b_ i)):=by
 intro p s σ H D I h
 have hcl:closureFor scope X.env=pure (hZ X.env.cells scope.names []):=jD fun y hy hk=>I.ok.has y.1 (S.free y hy hk)
 rw [exec_Assign_Name_used _ _ _ _ hsw]
 refine wpAny_bind (wpAny_standAt (wpAny_bind ?_))
 show wpAny _ X.A (do let _ ← comprehension (.ListComp elt [⟨tg,iter,ifs,0⟩] scope pos) scope X.env _ (newList []) false (eval iter X.env) (some (assign (.Name y py) X.env))) _ _ s
 refine wpAny_bind (wpAny_mono (wpAny_comprehension_free (use:=some (assign (.Name y py) X.env)) (Q:=fun _ s'=>SP X p D .next s') rfl hs hcl S.kind S.names
  (aT (hit p s σ H _ I h) fun v s1 h1=>aT h1 fun itv s2 h2=> ?_)) (fun _ s' hq=>wpAny_pure (wpAny_pure hq)) fun _ _ e=>e)
 obtain ⟨it,fp,tn,J,H2,e,I2,T,st2,f2,W,⟨m0,w0⟩,turn⟩:=h2
 subst e
 refine m9 (RR:=fun acc C=>compPost (model X.prog X.w) X.A X.xe (some (assign (.Name y py) X.env)) (fun _ s'=>SP X p D .next s') acc C) (Q:=fun x H1=>b_ i x σ H1 D.nx) hc I2 S T st2 f2 (hg _ _) ho (ht _ _) (he _ _) W m0 w0 turn ?_
 intro Dd C s' m H' hn I' fC q
 show wpAny _ _ (assign (.Name y py) X.env (.ref Dd)) _ _ s'
 refine wpAny_assign_Name (pY I' (i:=i) hN hi (.inl hy) (v:= .ref Dd) rfl (fun s5 I5 hZ88=> ?_) (.inr hy))
 obtain ⟨a,sb,ha⟩:=hZ88
 have ha':a≠C:=by
  rcases ha with z | z
  ·rw [z]; exact Ne.symm fC.2.1
  ·exact fC.2.2.2.2.1 _ _ z
 refine ⟨m,hn.sameBut sb (Ne.symm ha'),fun h' sb2=>⟨_,H',I5.turned (t':=s5.toks) (fun b o hb e=>(sb2.2 b hb).trans e) fC.1 fC.2.1 fC.2.2.2.1 fC.2.2.2.2.1 fC.2.2.2.2.2,q⟩⟩
end
section
variable{X:Cx}
end
section
variable{X:Cx}{pins:List (Addr×Obj)}{σ:St}{H:Hp}{s:Shared}
structure ExcK (K:W.Frag)(D:Addr):Prop where
 ga:W.findIn K (.ref D) "__getattribute__" =some (some (.builtin "BaseException.__getattribute__"))
 gh:W.findIn K (.ref D) "__getattr__" =some none
 ha:W.findIn K (.ref D) "__class__" =some (some (.builtin "object.__class__"))
 hn:W.specialIn K (.builtin "object.__class__") "__get__" =some (some (.builtin "getset_descriptor.__get__"))
 htk:W.takesIn K (.builtin "object.__class__")=some true
 hm:W.mroIn K D (.type "object")=some true
 hb:W.mroIn K D (.type "BaseException")=some true
 hc:(W.clsIn K D).isSome=true
end
end L2
namespace PySem.W
open PySem PySem.Spec PySem.Calls PyProof.Rows Builtin Builtin.ObjectAttr Builtin.Getset_descriptor
section
variable{prog:Program}{w:World}{A:Around}{E:Value→Shared→Prop}{s:Shared}{K:Frag}{x C:Addr}
end
end PySem.W
namespace L2
open PySem PySem.Spec PyProof.Rows
section
variable{X:Cx}{pins:List (Addr×Obj)}{σ:St}{H:Hp}{s:Shared}
end
inductive D where
 | non | bl (b:Bool) | int (i:Int) | str (x:Str) | lst (l:List D) | tup (l:List D)
 | ins (C:Addr) (ns:List Str) (l:List D)
 | dct (ks:List (List bH)) (l:List D)
 | scr (ns:List Int)
 | xc (C:Addr)
 | fdc (ks:List (List bH)) (l:List D)
inductive Res (α:Type) where
 | ok (a:α) | exc (c:Addr) | bad
noncomputable def Res.bind {α β:Type}:Res α→(α→Res β)→Res β
 | .ok a,f=>f a
 | .exc c,_=> .exc c
 | .bad,_=> .bad
structure LsS (K:W.Frag)(G:Hp)(a:Addr)(xs:List V):Prop where
 h:G a=some (.lst xs)
theorem LsS.of {K:W.Frag}{G:Hp}{a:Addr}{xs:List V}(h:G a=some (.lst xs)):LsS K G a xs:=⟨h⟩
theorem LsS.sq {K:W.Frag}{G:Hp}{a:Addr}{xs:List V}(h:LsS K G a xs):gu K G a xs:= .inl (.inl h.h)
structure TpS (K:W.Frag)(G:Hp)(a:Addr)(xs:List V):Prop where
 h:G a=some (.tup xs)
theorem TpS.of {K:W.Frag}{G:Hp}{a:Addr}{xs:List V}(h:G a=some (.tup xs)):TpS K G a xs:=⟨h⟩
theorem TpS.sq {K:W.Frag}{G:Hp}{a:Addr}{xs:List V}(h:TpS K G a xs):mE K G a xs:= .inl (.inl h.h)
instance {K:W.Frag}{G:Hp}{a:Addr}{xs:List V}:Coe (TpS K G a xs) (mE K G a xs):=⟨TpS.sq⟩
mutual
noncomputable def Rep (K:W.Frag)(G:Hp):D→V→Prop
 | .non,v=>v= .non
 | .bl b,v=>v= .bl b
 | .int i,v=>v= .int i
 | .str x,v=>v= .str x
 | .lst ds,v=>∃ a xs,v= .ref a∧LsS K G a xs∧RepL K G ds xs
 | .tup ds,v=>∃ a xs,v= .ref a∧TpS K G a xs∧RepL K G ds xs
 | .ins C ns ds,v=>∃ a dx fs,v= .ref a∧G a=some (.ins C dx fs)∧fs.map (·.1)=ns∧RepL K G ds (fs.map (·.2))
 | .dct ks ds,v=>∃ a kvs,v= .ref a∧Rd G a (.dT kvs)∧kvs.map (·.1)=ks∧RepL K G ds (kvs.map (·.2))
 | .scr ns,v=>∃ a,v= .ref a∧gu K G a (ns.map V.int)
 | .xc C,v=>∃ a,v= .ref a∧G a=some (Hr a (.ref C))∧ExcK K C
 | .fdc ks ds,v=>∃ a o kvs,v= .ref a∧G a=some (.frz o (.dT kvs))∧kvs.map (·.1)=ks∧RepL K G ds (kvs.map (·.2))
noncomputable def RepL (K:W.Frag)(G:Hp):List D→List V→Prop
 | [],vs=>vs=[]
 | d :: ds,vs=>∃ v r,vs=v :: r∧Rep K G d v∧RepL K G ds r
end
theorem Same.seqT {K:W.Frag}{H H':Hp}{a:Addr}{xs:List V}(e:Same H H')(h:mE K H a xs):mE K H' a xs:=by
 rcases h with (h | ⟨o,h⟩) | h
 ·exact .inl (.inl (e _ _ h))
 ·exact .inl (.inr ⟨o,e _ _ h⟩)
 ·exact .inr h
mutual
theorem Rep.mono {K:W.Frag}{G G':Hp}(e:Same G G'):∀ {d:D} {v:V},Rep K G d v→Rep K G' d v
 | .non,_,h=>h
 | .bl _,_,h=>h
 | .int _,_,h=>h
 | .str _,_,h=>h
 | .lst _,_,h=>by
  unfold Rep at h ⊢
  refine bA (h) fun a xs r s t=> ?_
  exact (dJ a xs r ⟨e _ _ s.h⟩ (RepL.mono e t))
 | .tup _,_,h=>by
  unfold Rep at h ⊢
  refine bA (h) fun a xs r s t=> ?_
  exact (dJ a xs r ⟨e _ _ s.h⟩ (RepL.mono e t))
 | .ins _ _ _,_,h=>by
  unfold Rep at h ⊢
  refine jA (h) fun a dx fs r s n t=> ?_
  exact (jT a dx fs r (e _ _ s) n (RepL.mono e t))
 | .dct _ _,_,h=>by
  unfold Rep at h ⊢
  refine oC (h) fun a kvs r s n t=> ?_
  refine (lv a kvs r ?_ n (RepL.mono e t))
  rcases s with s | ⟨o,s⟩
  ·exact .inl (e _ _ s)
  ·exact .inr ⟨o,e _ _ s⟩
 | .scr _,_,h=>by
  unfold Rep at h ⊢
  obtain ⟨a,r,s⟩:=h
  exact ⟨a,r,e.seq s⟩
 | .xc _,_,h=>by
  unfold Rep at h ⊢
  refine cy (h) fun a r s k=> ?_
  exact (iI a r (e _ _ s) k)
 | .fdc _ _,_,h=>by
  unfold Rep at h ⊢
  refine jA (h) fun a o kvs r s n t=> ?_
  exact (jT a o kvs r (e _ _ s) n (RepL.mono e t))
theorem RepL.mono {K:W.Frag}{G G':Hp}(e:Same G G'):∀ {ds:List D} {vs:List V},RepL K G ds vs→RepL K G' ds vs
 | [],_,h=>h
 | _ :: _,_,h=>by
  unfold RepL at h ⊢
  refine bA (h) fun v r q a b=> ?_
  exact (dJ v r q (Rep.mono e a) (RepL.mono e b))
end
theorem RepL.length {K:W.Frag}{G:Hp}:∀ {ds:List D} {vs:List V},RepL K G ds vs→ds.length=vs.length
 | [],vs,h=>by unfold RepL at h; rw [h]; rfl
 | d :: ds,vs,h=>by
  unfold RepL at h
  refine bA (h) fun v r hS45 _ b=> ?_; subst hS45
  rw [List.length_cons,List.length_cons,RepL.length b]
theorem RepL.nil {K:W.Frag}{G:Hp}:RepL K G [] []:=by unfold RepL; rfl
theorem RepL.cons {K:W.Frag}{G:Hp}{d:D}{v:V}{ds:List D}{vs:List V}(a:Rep K G d v)(b:RepL K G ds vs):RepL K G (d :: ds) (v :: vs):=by unfold RepL; exact (dJ v vs rfl a b)
theorem RepL.inv {K:W.Frag}{G:Hp}{d:D}{ds:List D}{vs:List V}(h:RepL K G (d :: ds) vs):∃ v r,vs=v :: r∧Rep K G d v∧RepL K G ds r:=by unfold RepL at h; exact h
theorem RepL.inv0 {K:W.Frag}{G:Hp}{vs:List V}(h:RepL K G [] vs):vs=[]:=by unfold RepL at h; exact h
theorem RepL.append {K:W.Frag}{G:Hp}:∀ {ds es:List D} {vs ws:List V},RepL K G ds vs→RepL K G es ws→RepL K G (ds ++ es) (vs ++ ws)
 | [],_,_,_,h,h'=>by rw [h.inv0]; exact h'
 | _ :: _,_,_,_,h,h'=>by
  refine bA (h.inv) fun v r hS46 a b=> ?_; subst hS46
  exact .cons a (RepL.append b h')
theorem RepL.get {K:W.Frag}{G:Hp}:∀ {ds:List D} {vs:List V} {i:Nat} {d:D},RepL K G ds vs→ds[i]?=some d→∃ v,vs[i]?=some v∧Rep K G d v
 | [],_,_,_,_,e=>by simp at e
 | _ :: _,_,0,_,h,e=>by
  refine bA (h.inv) fun v r hS47 a b=> ?_; subst hS47
  simp at e; subst e
  exact ⟨v,rfl,a⟩
 | _ :: _,_,i+1,_,h,e=>by
  refine bA (h.inv) fun v r hS48 a b=> ?_; subst hS48
  obtain ⟨w,h1,h2⟩:=RepL.get (i:=i) b (by simpa using e)
  exact ⟨w,by simpa using h1,h2⟩
theorem RepL.take {K:W.Frag}{G:Hp}:∀ {ds:List D} {vs:List V} (n:Nat),RepL K G ds vs→RepL K G (ds.take n) (vs.take n)
 | _,_,0,_=>by simpa using RepL.nil
 | [],_,_+1,h=>by rw [h.inv0]; simpa using RepL.nil
 | _ :: _,_,n+1,h=>by
  refine bA (h.inv) fun v r hS49 a b=> ?_; subst hS49
  exact .cons a (RepL.take n b)
theorem RepL.drop {K:W.Frag}{G:Hp}:∀ {ds:List D} {vs:List V} (n:Nat),RepL K G ds vs→RepL K G (ds.drop n) (vs.drop n)
 | _,_,0,h=>h
 | [],_,_+1,h=>by rw [h.inv0]; simpa using RepL.nil
 | _ :: _,_,n+1,h=>by
  refine bA (h.inv) fun v r hS50 a b=> ?_; subst hS50
  exact RepL.drop n b
theorem RepL.reverse {K:W.Frag}{G:Hp}:∀ {ds:List D} {vs:List V},RepL K G ds vs→RepL K G ds.reverse vs.reverse
 | [],_,h=>by rw [h.inv0]; simpa using RepL.nil
 | _ :: _,_,h=>by
  refine bA (h.inv) fun v r hS51 a b=> ?_; subst hS51
  rw [List.reverse_cons,List.reverse_cons]
  exact (RepL.reverse b).append (.cons a .nil)
theorem RepL.ints {K:W.Frag}{G:Hp}:∀ {ns:List Int} {vs:List V},RepL K G (ns.map D.int) vs→vs=ns.map V.int
 | [],_,h=>h.inv0
 | n :: ns,_,h=>by
  refine bA (RepL.inv (by simpa using h)) fun v r hS52 a b=> ?_; subst hS52
  rw [RepL.ints b]
  have a':v= .int n:=by unfold Rep at a; exact a
  rw [a']; rfl
theorem RepL.of_ints {K:W.Frag}{G:Hp}:∀ (ns:List Int),RepL K G (ns.map D.int) (ns.map V.int)
 | []=> .nil
 | n :: ns=> .cons (by unfold Rep; rfl) (RepL.of_ints ns)
noncomputable def oK (o:HO):Prop:=∃ ks:List bH,o= .tup (ks.map kV)
structure Ext (G H G' H':Hp):Prop where
 hh:Same H H'
 gg:Same G G'
 gh:Same G' H'
 nw:∀ b o,G' b=some o→G b=some o∨H b=none∨oK o
theorem Ext.refl {G H:Hp}(s:Same G H):Ext G H G H:=⟨.refl _,.refl _,s,fun _ _ h=> .inl h⟩
theorem Ext.trans {G H G1 H1 G2 H2:Hp}(a:Ext G H G1 H1)(b:Ext G1 H1 G2 H2):Ext G H G2 H2:=
 ⟨a.hh.trans b.hh,a.gg.trans b.gg,b.gh,fun c o h=>(b.nw c o h).elim (fun z=>a.nw c o z) fun z=> .inr (z.imp a.hh.free id)⟩
theorem Ext.new {G H:Hp}(s:Same G H){p:Addr}(hp:H p=none)(o:HO):Ext G H (br G p o) (br H p o):=
 ⟨fun b u e=>by rw [al (aF e hp)]; exact e,fun b u e=>by rw [al (aF (s b u e) hp)]; exact e,
  fun b u e=>by
   by_cases hb:b=p
   ·subst hb; rw [aw] at e ⊢; exact e
   ·rw [al hb] at e ⊢; exact s b u e,
  fun b u e=>by
   by_cases hb:b=p
   ·subst hb; exact .inr (.inl hp)
   ·rw [al hb] at e; exact .inl e⟩
noncomputable def OkR {α:Type}(E:XK)(H:Hp):Res α→Prop
 | .ok _=>True
 | .exc c=>∀ H',Same H H'→E (.ref c) none H'
 | .bad=>False
theorem OkR.fst {α β:Type}{E:XK}{H:Hp}{x:Res α}{f:α→Res β}(h:OkR E H (x.bind f)):OkR E H x:=by
 cases x with
 | ok a=>trivial
 | exc c=>exact h
 | bad=>exact h
theorem OkR.snd {α β:Type}{E:XK}{H H1:Hp}{x:Res α}{f:α→Res β}{a:α}(h:OkR E H (x.bind f))(e:x= .ok a)(s:Same H H1):OkR E H1 (f a):=by
 subst e
 have h':OkR E H (f a):=h
 cases q:f a with
 | ok b=>trivial
 | exc c=>rw [q] at h'; exact fun H' s'=>h' H' (s.trans s')
 | bad=>rw [q] at h'; exact h'
theorem OkR.le {α:Type}{E:XK}{H H1:Hp}{x:Res α}(h:OkR E H x)(s:Same H H1):OkR E H1 x:=by
 cases x with
 | ok b=>trivial
 | exc c=>exact fun H' s'=>h H' (s.trans s')
 | bad=>exact h
theorem au {α β:Type}{x:Res α}{f:α→Res β}{a:α}{b:β}(e:x= .ok a)(h:f a= .ok b):x.bind f= .ok b:=by subst e; exact h
noncomputable abbrev DS:=List (Option D)
noncomputable def Ro (K:W.Frag)(G:Hp)(σ:St)(ρ:DS):Prop:=∀ (i:Nat) (d:D),ρ[i]?=some (some d)→∃ v,σ[i]?=some (some v)∧Rep K G d v
theorem Ro.mono {K:W.Frag}{G G':Hp}{σ:St}{ρ:DS}(h:Ro K G σ ρ)(s:Same G G'):Ro K G' σ ρ:=fun i d e=>let ⟨v,a,b⟩:=h i d e; ⟨v,a,b.mono s⟩
theorem Ro.nil {K:W.Frag}{G:Hp}{σ:St}:Ro K G σ []:=fun i d e=>by simp at e
theorem Ro.cons {K:W.Frag}{G:Hp}{σ:St}{ρ:DS}{v:V}{d:D}(a:Rep K G d v)(h:Ro K G σ ρ):Ro K G (some v :: σ) (some d :: ρ):=fun i e q=>by
 cases i with
 | zero=>simp at q; subst q; exact ⟨v,rfl,a⟩
 | succ i=>simpa using h i e (by simpa using q)
theorem Ro.skip {K:W.Frag}{G:Hp}{σ:St}{ρ:DS}{o:Option V}(h:Ro K G σ ρ):Ro K G (o :: σ) (none :: ρ):=fun i e q=>by
 cases i with
 | zero=>simp at q
 | succ i=>simpa using h i e (by simpa using q)
inductive DQ (X:Cx)(pins:List (Addr×Obj))(σ:St)(G H:Hp)(o:Res D)(u:Value)(s':Shared):Prop
 | mk (d:D) (e:o= .ok d) (v:V) (G' H':Hp) (i:Inv X pins σ H' s') (r:RelV v u) (x:Ext G H G' H') (p:Rep X.K G' d v)
inductive DAQ (X:Cx)(pins:List (Addr×Obj))(σ:St)(G H:Hp)(o:Res (List D))(us:List Value)(s':Shared):Prop
 | mk (ds:List D) (e:o= .ok ds) (vs:List V) (G' H':Hp) (i:Inv X pins σ H' s') (r:Vals vs us) (x:Ext G H G' H') (p:RepL X.K G' ds vs)
inductive DTQ (X:Cx)(pins:List (Addr×Obj))(σ:St)(G H:Hp)(o:Res Bool)(b:Bool)(s':Shared):Prop
 | mk (e:o= .ok b) (G' H':Hp) (i:Inv X pins σ H' s') (x:Ext G H G' H')
noncomputable def PD (X:Cx)(E:XK)(e:Expr)(f:DS→Res D):Prop:=
 ∀ (pins:List (Addr×Obj)) (s:Shared) (σ:St) (G H:Hp) (ρ:DS),Inv X pins σ H s→Same G H→Ro X.K G σ ρ→OkR E H (f ρ)→
  wpAny (model X.prog X.w) X.A (eval e X.env) (DQ X pins σ G H (f ρ)) X.xe s
noncomputable def mB (X:Cx)(E:XK)(es:List Expr)(f:DS→Res (List D)):Prop:=
 ∀ (pos:Pos) (pins:List (Addr×Obj)) (s:Shared) (σ:St) (G H:Hp) (ρ:DS),Inv X pins σ H s→Same G H→Ro X.K G σ ρ→OkR E H (f ρ)→
  wpAny (model X.prog X.w) X.A (spliced (backTo pos (starEach es X.env))) (DAQ X pins σ G H (f ρ)) X.xe s
noncomputable def ub (X:Cx)(E:XK)(e:Expr)(f:DS→Res Bool):Prop:=
 ∀ (pins:List (Addr×Obj)) (s:Shared) (σ:St) (G H:Hp) (ρ:DS),Inv X pins σ H s→Same G H→Ro X.K G σ ρ→OkR E H (f ρ)→
  wpAny (model X.prog X.w) X.A (isTrue e X.env (eval e X.env)) (DTQ X pins σ G H (f ρ)) X.xe s
noncomputable def PDW (X:Cx)(E:XK)(e:Expr)(f:DS→Res Bool):Prop:=
 ∀ (whole:Sem Value) (pins:List (Addr×Obj)) (s:Shared) (σ:St) (G H:Hp) (ρ:DS),Inv X pins σ H s→Same G H→Ro X.K G σ ρ→OkR E H (f ρ)→
  wpAny (model X.prog X.w) X.A (isTrue e X.env whole) (DTQ X pins σ G H (f ρ)) X.xe s
theorem PDW.pt {X:Cx}{E:XK}{e:Expr}{f:DS→Res Bool}(h:PDW X E e f):ub X E e f:=h _
inductive tD (K:W.Frag)(E:XK)(f:DS→Res D)(σ:St)(H:Hp)(Q:VK):Prop
 | mk (G:Hp) (ρ:DS) (s:Same G H) (r:Ro K G σ ρ) (o:OkR E H (f ρ)) (k:∀ d,f ρ= .ok d→∀ v G' H',Ext G H G' H'→Rep K G' d v→Q v H')
theorem fL {X:Cx}{E:XK}{e:Expr}{f:DS→Res D}(h:PD X E e f):PE X e (tD X.K E f):=by
 intro pins s σ H Q I hZ2
 obtain ⟨G,ρ,hs,hr,ho,k⟩:=hZ2
 refine aT (h pins s σ G H ρ I hs hr ho) fun u s' hZ89=>(by obtain ⟨d,e,v,G',H',I',rv,x,rp⟩:=hZ89; exact ⟨v,H',I',rv,k d e v G' H' x rp⟩)
inductive tDT (K:W.Frag)(E:XK)(f:DS→Res Bool)(σ:St)(H:Hp)(Q:Bool→Hp→Prop):Prop
 | mk (G:Hp) (ρ:DS) (s:Same G H) (r:Ro K G σ ρ) (o:OkR E H (f ρ)) (k:∀ b,f ρ= .ok b→∀ G' H',Ext G H G' H'→Q b H')
theorem HP {X:Cx}{E:XK}{e:Expr}{f:DS→Res Bool}(h:ub X E e f):PT X e (tDT X.K E f):=by
 intro pins s σ H Q I hZ3
 obtain ⟨G,ρ,hs,hr,ho,k⟩:=hZ3
 refine aT (h pins s σ G H ρ I hs hr ho) fun b s' hZ90=>(by obtain ⟨e,G',H',I',x⟩:=hZ90; exact ⟨H',I',k b e G' H' x⟩)
inductive tDA (K:W.Frag)(E:XK)(f:DS→Res (List D))(σ:St)(H:Hp)(Q:List V→Hp→Prop):Prop
 | mk (G:Hp) (ρ:DS) (s:Same G H) (r:Ro K G σ ρ) (o:OkR E H (f ρ)) (k:∀ ds,f ρ= .ok ds→∀ vs G' H',Ext G H G' H'→RepL K G' ds vs→Q vs H')
theorem jz {X:Cx}{E:XK}{es:List Expr}{f:DS→Res (List D)}(h:mB X E es f):PA X es (tDA X.K E f):=by
 intro pos pins s σ H Q I hZ4
 obtain ⟨G,ρ,hs,hr,ho,k⟩:=hZ4
 refine aT (h pos pins s σ G H ρ I hs hr ho) fun us s' hZ91=>(by obtain ⟨ds,e,vs,G',H',I',rv,x,rp⟩:=hZ91; exact ⟨vs,H',I',rv,k ds e vs G' H' x rp⟩)
section
variable{X:Cx}{E:XK}
theorem EA {i:Nat}{x:Str}{pos:Pos}(hN:X.N[i]?=some x)(hv:xP X.env.scope x)(hd:(x == ("__debug__" :Str))=false:=by decide)(hcd:(x == ("__classdict__" :Str))=false:=by decide) :
  PD X E (.Name x pos) (fun ρ=>match ρ[i]? with | some (some d)=> .ok d | _=> .bad):=by
 intro pins s σ G H ρ I hs hr ho
 cases e:ρ[i]? with
 | none=>simp only [e] at ho; exact ho.elim
 | some o=>
  cases o with
  | none=>simp only [e] at ho; exact ho.elim
  | some d=>
   obtain ⟨v,hv',rp⟩:=hr i d e
   exact aT (iq hN hv hd hcd pins s σ H (fun v' H'=>H'=H∧v'=v) I (iI v hv' rfl rfl)) fun u s' hZ92=>by
    obtain ⟨v',H',I',r,e1,e2⟩:=hZ92
    subst e1 e2
    exact ⟨d,by simp only [e],v',G,H',I',r,.refl hs,rp⟩
theorem mN {e:Expr}{t:TE}{d:D}(h:PE X e t)(ht:∀ σ H,t σ H fun v H'=>H'=H∧∀ G,Rep X.K G d v):PD X E e (fun _=> .ok d):=by
 intro pins s σ G H ρ I hs hr ho
 refine aT (h pins s σ H _ I (ht σ H)) fun u s' hZ93=> ?_
 obtain ⟨v,H',I',r,e1,e2⟩:=hZ93
 subst e1
 exact ⟨d,rfl,v,G,H',I',r,.refl hs,e2 G⟩
theorem ag {i j pos}:PD X E (.Constant (.int i) j pos) (fun _=> .ok (.int i)):=mN EC fun _ _=>⟨rfl,fun _=>by unfold Rep; rfl⟩
theorem fG {b j pos}:PD X E (.Constant (.bool b) j pos) (fun _=> .ok (.bl b)):=mN GK fun _ _=>⟨rfl,fun _=>by unfold Rep; rfl⟩
theorem zd {x j pos}:PD X E (.Constant (.str x) j pos) (fun _=> .ok (.str x)):=mN EE fun _ _=>⟨rfl,fun _=>by unfold Rep; rfl⟩
theorem zb {x:Str}{i:Int}{u:Value}{pos:Pos}(hg:Gl X x)(hm:X.mg x=some u)(r:∃ t,u= .int i t)(hd:(x == ("__debug__" :Str))=false:=by decide):PD X E (.Name x pos) (fun _=> .ok (.int i)):=
 mN (BA (v:= .int i) hg hm r hd) fun _ _=>⟨rfl,fun _=>by unfold Rep; rfl⟩
theorem af:mB X E [] (fun _=> .ok []):=fun _ _ _ _ G H _ I hs _ _=>Calls.spliced_nil ⟨[],rfl,[],G,H,I,.nil,.refl hs,.nil⟩
theorem aa {e:Expr}{es:List Expr}{f:DS→Res D}{g:DS→Res (List D)}(ha:PD X E e f)(hr:mB X E es g)(hs:starEach (e :: es) X.env=(false,eval e X.env) :: starEach es X.env:=by rfl) :
  mB X E (e :: es) (fun ρ=>(f ρ).bind fun d=>(g ρ).bind fun ds=> .ok (d :: ds)):=by
 intro pos pins s σ G H ρ I hsm hro ho
 have key:PA X (e :: es) (CG (tD X.K E f) (tDA X.K E g)):=il (fL ha) (jz hr) hs
 refine aT (key pos pins s σ H (fun vs H'=>∃ ds,((f ρ).bind fun d=>(g ρ).bind fun ds=> .ok (d :: ds))= .ok ds∧∃ G',Ext G H G' H'∧RepL X.K G' ds vs) I ?_) fun us s' hZ94=>(by obtain ⟨vs,H',I',r,ds,e1,G',x,rp⟩:=hZ94; exact ⟨ds,e1,vs,G',H',I',r,x,rp⟩)
 refine ⟨G,ρ,hsm,hro,ho.fst,fun d ed v G1 H1 x1 r1=>⟨G1,ρ,x1.gh,hro.mono x1.gg,(ho.snd ed x1.hh).fst,fun ds eds vs G2 H2 x2 r2=>⟨d :: ds,au ed (au eds rfl),G2,x1.trans x2,.cons (r1.mono x2.gg) r2⟩⟩⟩
noncomputable def DOp (X:Cx)(E:XK)(f:Value→Value→Sem Value)(g:D→D→Res D):Prop:=
 ∀ (pins:List (Addr×Obj)) (s:Shared) (σ:St) (G H:Hp) (x y:V) (dx dy:D) (v u:Value),Inv X pins σ H s→Same G H→Rep X.K G dx x→Rep X.K G dy y→RelV x v→RelV y u→OkR E H (g dx dy)→
  wpAny (model X.prog X.w) X.A (f v u) (DQ X pins σ G H (g dx dy)) X.xe s
theorem DOp.of {f:Value→Value→Sem Value}{r:R2}{g:D→D→Res D}(ho:rO X f r)
  (h:∀ (G H:Hp) (x y:V) (dx dy:D),Same G H→Rep X.K G dx x→Rep X.K G dy y→OkR E H (g dx dy)→r x y H (fun v' H'=>∃ d G',g dx dy= .ok d∧Ext G H G' H'∧Rep X.K G' d v')):DOp X E f g:=by
 intro pins s σ G H x y dx dy v u I hs rx ry rv ru ok
 refine aT (ho pins s σ H x y v u _ I rv ru (h G H x y dx dy hs rx ry ok)) fun w s' hZ95=>(by obtain ⟨v',H',I',r',d,G',e,x',rp⟩:=hZ95; exact ⟨d,e,v',G',H',I',r',x',rp⟩)
noncomputable def ae (f:DS→Res D)(g:DS→Res D)(o:D→D→Res D):DS→Res D:=fun ρ=>(f ρ).bind fun a=>(g ρ).bind fun b=>o a b
theorem uP {a b:Expr}{fa fb:DS→Res D}(ha:PD X E a fa)(hb:PD X E b fb){op:Value→Value→Sem Value}{o:D→D→Res D}(hop:DOp X E op o){pins:List (Addr×Obj)}{s:Shared}{σ:St}{G H:Hp}{ρ:DS}(I:Inv X pins σ H s)(hs:Same G H)(hro:Ro X.K G σ ρ)(ho:OkR E H (ae fa fb o ρ)) :
  wpAny (model X.prog X.w) X.A (eval a X.env) (fun v s₁=>wpAny (model X.prog X.w) X.A (eval b X.env) (fun u s₂=>wpAny (model X.prog X.w) X.A (op v u) (DQ X pins σ G H (ae fa fb o ρ)) X.xe s₂) X.xe s₁) X.xe s:=by
 refine aT (ha pins s σ G H ρ I hs hro ho.fst) fun v s1 hZ96=> ?_
 obtain ⟨d1,e1,v1,G1,H1,I1,r1,x1,p1⟩:=hZ96
 refine aT (hb pins s1 σ G1 H1 ρ I1 x1.gh (hro.mono x1.gg) (ho.snd e1 x1.hh).fst) fun u s2 hZ97=> ?_
 obtain ⟨d2,e2,v2,G2,H2,I2,r2,x2,p2⟩:=hZ97
 refine aT (hop pins s2 σ G2 H2 v1 v2 d1 d2 v u I2 x2.gh (p1.mono x2.gg) p2 r1 r2 ((ho.snd e1 x1.hh).snd e2 x2.hh)) fun w s3 hZ98=> ?_
 obtain ⟨d,e,v3,G3,H3,I3,r3,x3,p3⟩:=hZ98
 exact ⟨d,au e1 (au e2 e),v3,G3,H3,I3,r3,(x1.trans x2).trans x3,p3⟩
theorem aq {op:Operator}{a b:Expr}{fa fb:DS→Res D}{o:D→D→Res D}{pos:Pos}(hop:DOp X E (binaryOp op) o)(ha:PD X E a fa)(hb:PD X E b fb):PD X E (.BinOp a op b pos) (ae fa fb o):=
 fun pins s σ G H ρ I hs hro ho=>wpAny_BinOp (uP ha hb hop I hs hro ho)
theorem y_ {op:CmpOp}{a b:Expr}{fa fb:DS→Res D}{o:D→D→Res D}{pos:Pos}(hop:DOp X E (compareOp op) o)(ha:PD X E a fa)(hb:PD X E b fb)(hm:behindInMarks op b=false):PD X E (.Compare a [op] [b] pos) (ae fa fb o):=
 fun pins s σ G H ρ I hs hro ho=>wpAny_Compare1 (uP ha hb hop I hs hro ho) hm
noncomputable def eY (f:DS→Res D):DS→Res Bool:=fun ρ=>(f ρ).bind fun d=>match d with | .bl b=> .ok b | _=> .bad
theorem aS {op:CmpOp}{a b:Expr}{fa fb:DS→Res D}{o:D→D→Res D}{pos:Pos}(hop:DOp X E (compareOp op) o)(ha:PD X E a fa)(hb:PD X E b fb)(hm:behindInMarks op b=false):ub X E (.Compare a [op] [b] pos) (eY (ae fa fb o)):=by
 intro pins s σ G H ρ I hs hro ho
 refine wpAny_isTrue_Compare1 (aT (uP ha hb hop I hs hro ho.fst) fun v s1 h1=>aT h1 fun u s2 h2=>aT h2 fun c s3 hZ99=> ?_) hm
 obtain ⟨d,e,v3,G3,H3,I3,r3,x3,p3⟩:=hZ99
 have k:=ho.snd e (Same.refl H)
 cases d with
 | bl b=>
  unfold Rep at p3; subst p3; cases r3
  exact wpAny_truthy_bool ⟨au e rfl,G3,H3,I3,x3⟩
 | _=>exact k.elim
theorem q0 {e:Expr}{f:DS→Res D}(h:PD X E e f)(he:∀ whole,isTrue e X.env whole=(do let v ← whole; standAt e.pos; holding [v] (truthy v)):=by intro _; rfl):ub X E e (eY f):=by
 intro pins s σ G H ρ I hs hro ho
 refine isTrue_plain (aT (h pins s σ G H ρ I hs hro ho.fst) fun v s1 hZ100=> ?_) (he _)
 obtain ⟨d,e,v3,G3,H3,I3,r3,x3,p3⟩:=hZ100
 have k:=ho.snd e (Same.refl H)
 cases d with
 | bl b=>
  unfold Rep at p3; subst p3; cases r3
  exact wpAny_truthy_bool ⟨au e rfl,G3,H3,I3,x3⟩
 | _=>exact k.elim
end
theorem rep_int {K:W.Frag}{G:Hp}{i:Int}{v:V}:Rep K G (.int i) v↔v= .int i:=by unfold Rep; exact Iff.rfl
theorem rep_bl {K:W.Frag}{G:Hp}{i:Bool}{v:V}:Rep K G (.bl i) v↔v= .bl i:=by unfold Rep; exact Iff.rfl
theorem rep_non {K:W.Frag}{G:Hp}{v:V}:Rep K G .non v↔v= .non:=by unfold Rep; exact Iff.rfl
theorem rep_str {K:W.Frag}{G:Hp}{i:Str}{v:V}:Rep K G (.str i) v↔v= .str i:=by unfold Rep; exact Iff.rfl
theorem rep_lst {K:W.Frag}{G:Hp}{ds:List D}{v:V}:Rep K G (.lst ds) v↔∃ a xs,v= .ref a∧LsS K G a xs∧RepL K G ds xs:=by unfold Rep; exact Iff.rfl
theorem rep_tup {K:W.Frag}{G:Hp}{ds:List D}{v:V}:Rep K G (.tup ds) v↔∃ a xs,v= .ref a∧TpS K G a xs∧RepL K G ds xs:=by unfold Rep; exact Iff.rfl
theorem wk {K:W.Frag}{G:Hp}{ns:List Int}{v:V}:Rep K G (.scr ns) v↔∃ a,v= .ref a∧gu K G a (ns.map V.int):=by unfold Rep; exact Iff.rfl
theorem rep_fdc {K:W.Frag}{G:Hp}{ks:List (List bH)}{ds:List D}{v:V}:Rep K G (.fdc ks ds) v↔∃ a o kvs,v= .ref a∧G a=some (.frz o (.dT kvs))∧kvs.map (·.1)=ks∧RepL K G ds (kvs.map (·.2)):=by unfold Rep; exact Iff.rfl
theorem rep_dct {K:W.Frag}{G:Hp}{ks:List (List bH)}{ds:List D}{v:V}:Rep K G (.dct ks ds) v↔∃ a kvs,v= .ref a∧Rd G a (.dT kvs)∧kvs.map (·.1)=ks∧RepL K G ds (kvs.map (·.2)):=by unfold Rep; exact Iff.rfl
theorem rep_ins {K:W.Frag}{G:Hp}{C:Addr}{ns:List Str}{ds:List D}{v:V}:Rep K G (.ins C ns ds) v↔∃ a dx fs,v= .ref a∧G a=some (.ins C dx fs)∧fs.map (·.1)=ns∧RepL K G ds (fs.map (·.2)):=by unfold Rep; exact Iff.rfl
noncomputable def iH (c:Int→Int→Bool)(g:Int→Int→D):D→D→Res D
 | .int i,.int j=>if c i j=true then .ok (g i j) else .bad
 | _,_=> .bad
section
variable{X:Cx}{E:XK}
theorem qq {f:Value→Value→Sem Value}{C:Int→Int→Prop}{g:Int→Int→V}{c:Int→Int→Bool}{gD:Int→Int→D}(ho:rO X f (rI C g))(hc:∀ i j,c i j=true→C i j)(hg:∀ i j G,Rep X.K G (gD i j) (g i j)):DOp X E f (iH c gD):=
 DOp.of ho fun G H x y dx dy hs rx ry ok=>by
  unfold iH at ok ⊢
  split at ok
  ·rename_i i j
   rw [rep_int] at rx ry
   subst rx ry
   by_cases h:c i j=true
   ·rw [if_pos h]
    exact (Gd i j rfl rfl (hc i j h) _ G rfl (.refl hs) (hg i j G))
   ·rw [if_neg h] at ok; exact ok.elim
  ·exact ok.elim
theorem iV {f:Value→Value→Sem Value}{g:Int→Int→V}{gD:Int→Int→D}(ho:rO X f (CF g))(hg:∀ i j G,Rep X.K G (gD i j) (g i j)):DOp X E f (iH (fun _ _=>true) gD):=
 DOp.of ho fun G H x y dx dy hs rx ry ok=>by
  unfold iH at ok ⊢
  split at ok
  ·rename_i i j
   rw [rep_int] at rx ry
   subst rx ry
   exact (Gf i j rfl rfl _ G rfl (.refl hs) (hg i j G))
  ·exact ok.elim
instance (i j:Int):Decidable (CMul i j):=by unfold CMul; infer_instance
instance (i j:Int):Decidable (xR i j):=by unfold xR; infer_instance
noncomputable def xW:D→D→Res D:=iH (fun _ _=>true) fun i j=> .int (i+j)
noncomputable def rC:D→D→Res D:=iH (fun _ _=>true) fun i j=> .int (i - j)
noncomputable def xu:D→D→Res D:=iH (fun i j=>decide (CMul i j)) fun i j=> .int (i * j)
noncomputable def vG:D→D→Res D:=iH (fun i j=>decide (xR i j)) fun i j=> .int (i / j)
noncomputable def qU:D→D→Res D:=iH (fun _ j=>decide (0 < j)) fun i j=> .int (i % j)
noncomputable def sV:D→D→Res D:=iH (fun _ _=>true) fun i j=> .bl (decide (i < j))
noncomputable def sO:D→D→Res D:=iH (fun _ _=>true) fun i j=> .bl (decide (i≤j))
noncomputable def Hk:D→D→Res D:=iH (fun _ _=>true) fun i j=> .bl (decide (j < i))
noncomputable def Io:D→D→Res D:=iH (fun _ _=>true) fun i j=> .bl (decide (j≤i))
theorem do_add:DOp X E (binaryOp .Add) xW:=iV Eo fun _ _ _=>rep_int.mpr rfl
theorem nh:DOp X E (binaryOp .Sub) rC:=iV Eu fun _ _ _=>rep_int.mpr rfl
theorem do_mul:DOp X E (binaryOp .Mult) xu:=qq Es (fun _ _ h=>of_decide_eq_true h) fun _ _ _=>rep_int.mpr rfl
theorem Ao:DOp X E (binaryOp .FloorDiv) vG:=qq Bp (fun _ _ h=>of_decide_eq_true h) fun _ _ _=>rep_int.mpr rfl
theorem lb:DOp X E (binaryOp .Mod) qU:=qq Er (fun _ _ h=>of_decide_eq_true h) fun _ _ _=>rep_int.mpr rfl
theorem ka:DOp X E (compareOp .Lt) sV:=iV GH fun _ _ _=>rep_bl.mpr rfl
theorem gy:DOp X E (compareOp .LtE) sO:=iV GG fun _ _ _=>rep_bl.mpr rfl
theorem Cp:DOp X E (compareOp .Gt) Hk:=iV GF fun _ _ _=>rep_bl.mpr rfl
noncomputable def El:D→Res D
 | .int i=> .ok (.int (-i))
 | _=> .bad
theorem qZ {a:Expr}{fa:DS→Res D}{pos:Pos}(ha:PD X E a fa):PD X E (.UnaryOp .USub a pos) (fun ρ=>(fa ρ).bind El):=by
 intro pins s σ G H ρ I hs hro ho
 refine UnaryOp_ (aT (ha pins s σ G H ρ I hs hro ho.fst) fun v s1 hZ101=> ?_)
 obtain ⟨d1,e1,v1,G1,H1,I1,r1,x1,p1⟩:=hZ101
 have k:=ho.snd e1 x1.hh
 cases d1 with
 | int i=>
  rw [rep_int] at p1; subst p1
  exact aT (E_ pins s1 σ H1 (.int i) v (fun v' H'=>H'=H1∧v'= .int (-i)) I1 r1 (iI i rfl rfl rfl)) fun w s2 hZ102=>by
   obtain ⟨v2,H2,I2,r2,h1,h2⟩:=hZ102
   subst h1 h2
   exact ⟨.int (-i),au e1 rfl,_,G1,_,I2,r2,x1,rep_int.mpr rfl⟩
 | _=>exact k.elim
noncomputable def Hl (d:D):Bool:=match d with | .non=>true | _=>false
noncomputable def HG (d e:D):Res D:=match e with | .non=> .ok (.bl (Hl d)) | _=> .bad
noncomputable def GA (d e:D):Res D:=match e with | .non=> .ok (.bl (!Hl d)) | _=> .bad
theorem tq {a:Expr}{pos:Pos}{f:DS→Res Bool}(ha:ub X E a f):PDW X E (.BoolOp .And [a] pos) f:=by
 intro wh pins s σ G H ρ I hs hro ho
 refine isTrue_and (aT (ha pins s σ G H ρ I hs hro ho) fun c s1 e=> ?_)
 cases c with
 | true=>exact isTrue_and_nil e
 | false=>exact e
theorem By {a:Expr}{pos:Pos}{f:DS→Res Bool}(ha:ub X E a f):PDW X E (.BoolOp .Or [a] pos) f:=by
 intro wh pins s σ G H ρ I hs hro ho
 refine isTrue_or (aT (ha pins s σ G H ρ I hs hro ho) fun c s1 e=> ?_)
 cases c with
 | false=>exact isTrue_or_nil e
 | true=>exact e
noncomputable def wA (f g:DS→Res Bool):DS→Res Bool:=fun ρ=>(f ρ).bind fun b=>if b=true then g ρ else .ok false
noncomputable def Hn (f g:DS→Res Bool):DS→Res Bool:=fun ρ=>(f ρ).bind fun b=>if b=true then .ok true else g ρ
theorem vW {a b:Expr}{rest:List Expr}{pos:Pos}{f g:DS→Res Bool}(ha:ub X E a f)(hb:PDW X E (.BoolOp .And (b :: rest) pos) g):PDW X E (.BoolOp .And (a :: b :: rest) pos) (wA f g):=by
 intro wh pins s σ G H ρ I hs hro ho
 refine isTrue_and (aT (ha pins s σ G H ρ I hs hro ho.fst) fun c s1 hZ103=> ?_)
 obtain ⟨e,G1,H1,I1,x1⟩:=hZ103
 cases c with
 | true=>exact aT (hb wh pins s1 σ G1 H1 ρ I1 x1.gh (hro.mono x1.gg) (ho.snd e x1.hh)) fun c2 s2 hZ104=>(by obtain ⟨e2,G2,H2,I2,x2⟩:=hZ104; exact ⟨au e (by rw [if_pos rfl]; exact e2),G2,H2,I2,x1.trans x2⟩)
 | false=>exact ⟨au e rfl,G1,H1,I1,x1⟩
theorem zg {a b:Expr}{rest:List Expr}{pos:Pos}{f g:DS→Res Bool}(ha:ub X E a f)(hb:PDW X E (.BoolOp .Or (b :: rest) pos) g):PDW X E (.BoolOp .Or (a :: b :: rest) pos) (Hn f g):=by
 intro wh pins s σ G H ρ I hs hro ho
 refine isTrue_or (aT (ha pins s σ G H ρ I hs hro ho.fst) fun c s1 hZ105=> ?_)
 obtain ⟨e,G1,H1,I1,x1⟩:=hZ105
 cases c with
 | false=>exact aT (hb wh pins s1 σ G1 H1 ρ I1 x1.gh (hro.mono x1.gg) (ho.snd e x1.hh)) fun c2 s2 hZ106=>(by obtain ⟨e2,G2,H2,I2,x2⟩:=hZ106; exact ⟨au e (by rw [if_neg Bool.false_ne_true]; exact e2),G2,H2,I2,x1.trans x2⟩)
 | true=>exact ⟨au e rfl,G1,H1,I1,x1⟩
noncomputable def mq (f:DS→Res Bool):DS→Res Bool:=fun ρ=>(f ρ).bind fun b=> .ok (!b)
theorem eM {a:Expr}{pos:Pos}{f:DS→Res Bool}(ha:ub X E a f):ub X E (.UnaryOp .Not a pos) (mq f):=by
 intro pins s σ G H ρ I hs hro ho
 exact isTrue_not (aT (ha pins s σ G H ρ I hs hro ho.fst) fun c s1 hZ107=>(by obtain ⟨e,G1,H1,I1,x1⟩:=hZ107; exact ⟨au e rfl,G1,H1,I1,x1⟩))
noncomputable def CV (f g:DS→Res D):DS→Res D:=fun ρ=>(f ρ).bind fun d=>match d with | .bl true=>g ρ | .bl false=> .ok (.bl false) | _=> .bad
noncomputable def HI (f:DS→Res D):DS→Res D:=fun ρ=>(f ρ).bind fun d=>match d with | .bl b=> .ok (.bl (!b)) | _=> .bad
theorem Ey {op}{a:Expr}{pos:Pos}{f:DS→Res D}(h:PD X E a f):PD X E (.BoolOp op [a] pos) f:=fun pins s σ G H ρ I hs hro ho=>BoolOp_one (h pins s σ G H ρ I hs hro ho)
theorem Ex {a b:Expr}{rest:List Expr}{pos:Pos}{f g:DS→Res D}(ha:PD X E a f)(hb:PD X E (.BoolOp .And (b :: rest) pos) g):PD X E (.BoolOp .And (a :: b :: rest) pos) (CV f g):=by
 intro pins s σ G H ρ I hs hro ho
 refine BoolOp_and (aT (ha pins s σ G H ρ I hs hro ho.fst) fun v s1 hZ108=> ?_)
 obtain ⟨d1,e1,v1,G1,H1,I1,r1,x1,p1⟩:=hZ108
 have k:=ho.snd e1 x1.hh
 cases d1 with
 | bl c=>
  rw [rep_bl] at p1; subst p1; cases r1
  refine wpAny_truthy_bool ?_
  cases c with
  | true=>exact aT (hb pins s1 σ G1 H1 ρ I1 x1.gh (hro.mono x1.gg) k) fun w s2 hZ109=>(by obtain ⟨d2,e2,v2,G2,H2,I2,r2,x2,p2⟩:=hZ109; exact ⟨d2,au e1 e2,v2,G2,H2,I2,r2,x1.trans x2,p2⟩)
  | false=>exact ⟨_,au e1 rfl,.bl false,G1,H1,I1,rfl,x1,rep_bl.mpr rfl⟩
 | _=>exact k.elim
noncomputable def hX (fa fb fc:DS→Res D)(o o':D→D→Res D):DS→Res Bool:=fun ρ=>(fa ρ).bind fun a=>(fb ρ).bind fun b=>(o a b).bind fun r=>match r with | .bl true=>(fc ρ).bind fun c=>(o' b c).bind fun q=>(match q with | .bl k=> .ok k | _=> .bad) | .bl false=> .ok false | _=> .bad
noncomputable def aX (n:Nat):Bool:=decide (n≤100000)
theorem b0 {n:Nat}(h:aX n=true):n≤sizeLine:=Nat.le_trans (of_decide_eq_true h) (by decide)
noncomputable def i6 (f:DS→Res (List D)):DS→Res D:=fun ρ=>(f ρ).bind fun ds=>if aX ds.length=true then .ok (.lst ds) else .bad
noncomputable def fK (f:DS→Res (List D)):DS→Res D:=fun ρ=>(f ρ).bind fun ds=>if aX ds.length=true then .ok (.tup ds) else .bad
theorem uO {es:List Expr}{pos:Pos}{f:DS→Res (List D)}(h:mB X E es f):PD X E (.List es pos) (i6 f):=by
 intro pins s σ G H ρ I hs hro ho
 refine aT (zi (jz h) pins s σ H (fun v H'=>∃ d G',i6 f ρ= .ok d∧Ext G H G' H'∧Rep X.K G' d v) I ?_) fun u s' hZ110=>(by obtain ⟨v,H',I',r,d,G',e,x,rp⟩:=hZ110; exact ⟨d,e,v,G',H',I',r,x,rp⟩)
 refine ⟨G,ρ,hs,hro,ho.fst,fun ds e vs G1 H1 x1 r1=> ?_⟩
 have k:=ho.snd e x1.hh
 by_cases hl:aX ds.length=true
 ·refine ⟨by rw [← r1.length]; exact b0 hl,fun p hp=>(dJ (.lst ds) (br G1 p (.lst vs)) (au e (if_pos hl)) (x1.trans (.new x1.gh hp _)) (rep_lst.mpr (dJ p vs rfl (.of aw) (r1.mono (Ext.new x1.gh hp _).gg))))⟩
 ·rw [if_neg hl] at k; exact k.elim
theorem dA {es:List Expr}{x1}{pos:Pos}{f:DS→Res (List D)}(h:mB X E es f):PD X E (.Tuple es x1 pos) (fK f):=by
 intro pins s σ G H ρ I hs hro ho
 refine aT (EF (jz h) pins s σ H (fun v H'=>∃ d G',fK f ρ= .ok d∧Ext G H G' H'∧Rep X.K G' d v) I ?_) fun u s' hZ111=>(by obtain ⟨v,H',I',r,d,G',e,x,rp⟩:=hZ111; exact ⟨d,e,v,G',H',I',r,x,rp⟩)
 refine ⟨G,ρ,hs,hro,ho.fst,fun ds e vs G1 H1 x1 r1=> ?_⟩
 have k:=ho.snd e x1.hh
 by_cases hl:aX ds.length=true
 ·refine ⟨by rw [← r1.length]; exact b0 hl,fun p hp=>(dJ (.tup ds) (br G1 p (.tup vs)) (au e (if_pos hl)) (x1.trans (.new x1.gh hp _)) (rep_tup.mpr (dJ p vs rfl (.of aw) (r1.mono (Ext.new x1.gh hp _).gg))))⟩
 ·rw [if_neg hl] at k; exact k.elim
end
section
variable{X:Cx}{E:XK}
theorem Ez {e:Expr}{r:R2}{fa fb:DS→Res D}{o:D→D→Res D}(he:PE X e (Ik r (tD X.K E fa) (tD X.K E fb)))
  (h:∀ (G H:Hp) (x y:V) (dx dy:D) (Q:VK),Same G H→Rep X.K G dx x→Rep X.K G dy y→OkR E H (o dx dy)→(∀ d v' G' H',o dx dy= .ok d→Ext G H G' H'→Rep X.K G' d v'→Q v' H')→r x y H Q):PD X E e (ae fa fb o):=by
 intro pins s σ G H ρ I hs hro ho
 refine aT (he pins s σ H (fun v H'=>∃ d G',ae fa fb o ρ= .ok d∧Ext G H G' H'∧Rep X.K G' d v) I ?_) fun u s' hZ112=>(by obtain ⟨v,H',I',r',d,G',e,x,rp⟩:=hZ112; exact ⟨d,e,v,G',H',I',r',x,rp⟩)
 refine ⟨G,ρ,hs,hro,ho.fst,fun d1 e1 v1 G1 H1 x1 p1=>⟨G1,ρ,x1.gh,hro.mono x1.gg,(ho.snd e1 x1.hh).fst,fun d2 e2 v2 G2 H2 x2 p2=> ?_⟩⟩
 exact h G2 H2 v1 v2 d1 d2 _ x2.gh (p1.mono x2.gg) p2 ((ho.snd e1 x1.hh).snd e2 x2.hh) fun d v' G' H' ed xx rp=>(dJ d G' (au e1 (au e2 ed)) ((x1.trans x2).trans xx) rp)
theorem RepL.atI {K:W.Frag}{G:Hp}{ds:List D}{vs:List V}{i:Int}{d:D}(h:RepL K G ds vs)(e:atI ds i=some d):∃ v,L2.atI vs i=some v∧Rep K G d v:=by
 unfold L2.atI at e ⊢
 rw [← h.length]
 cases q:sJ ds.length i with
 | none=>rw [q] at e; cases e
 | some j=>
  rw [q] at e
  exact h.get (by simpa using e)
noncomputable def aA:D→D→Res D
 | .lst l,.int i=>match L2.atI l i with | some d=> .ok d | none=> .bad
 | .tup l,.int i=>match L2.atI l i with | some d=> .ok d | none=> .bad
 | .scr ns,.int i=>match L2.atI ns i with | some n=> .ok (.int n) | none=> .bad
 | .str z,.int i=>match L2.atI z.cps.toList i with | some c=>if aX z.length=true then .ok (.str ⟨#[c]⟩) else .bad | none=> .bad
 | _,_=> .bad
theorem Ad {α β:Type}{f:α→β}{xs:List α}{i:Int}{a:α}(h:L2.atI xs i=some a):L2.atI (xs.map f) i=some (f a):=by
 unfold L2.atI at h ⊢
 rw [List.length_map]
 cases q:sJ xs.length i with
 | none=>rw [q] at h; cases h
 | some j=>
  rw [q] at h
  show (xs.map f)[j]?=some (f a)
  have h':xs[j]?=some a:=h
  rw [List.getElem?_map,h']
  rfl
theorem ao {a b:Expr}{pos:Pos}{fa fb:DS→Res D}(ha:PD X E a fa)(hb:PD X E b fb)(hp:qj b:=by intro _ _; rfl):PD X E (.Subscript a b pos) (ae fa fb aA):=by
 refine Ez (CC DV (fL ha) (fL hb) hp) fun G H x y dx dy Q hs rx ry ok k=> ?_
 unfold aA at ok k
 split at ok
 ·rename_i l i
  rw [rep_lst] at rx; rw [rep_int] at ry
  refine bA (rx) fun p xs hS53 sq rl=> ?_; subst hS53
  subst ry
  dsimp only at ok k
  cases q:L2.atI l i with
  | none=>rw [q] at ok; exact ok.elim
  | some d=>
   obtain ⟨v,hv,rv⟩:=rl.atI q
   rw [q] at k
   exact .inl (Bb p xs i v rfl rfl (hs.seq sq.sq) hv (k d v G H rfl (.refl hs) rv))
 ·rename_i l i
  rw [rep_tup] at rx; rw [rep_int] at ry
  refine bA (rx) fun p xs hS54 sq rl=> ?_; subst hS54
  subst ry
  dsimp only at ok k
  cases q:L2.atI l i with
  | none=>rw [q] at ok; exact ok.elim
  | some d=>
   obtain ⟨v,hv,rv⟩:=rl.atI q
   rw [q] at k
   exact .inr (.inl (Bb p xs i v rfl rfl (hs.seqT sq) hv (k d v G H rfl (.refl hs) rv)))
 ·rename_i ns i
  rw [wk] at rx; rw [rep_int] at ry
  obtain ⟨p,rfl,sq⟩:=rx
  subst ry
  dsimp only at ok k
  cases q:L2.atI ns i with
  | none=>rw [q] at ok; exact ok.elim
  | some n=>
   rw [q] at k
   exact .inl (Bb p _ i (.int n) rfl rfl (hs.seq sq) (Ad q) (k (.int n) (.int n) G H rfl (.refl hs) (rep_int.mpr rfl)))
 ·rename_i z i
  rw [rep_str] at rx; rw [rep_int] at ry
  subst rx ry
  dsimp only at ok k
  cases q:L2.atI z.cps.toList i with
  | none=>rw [q] at ok; exact ok.elim
  | some c=>
   rw [q] at k ok
   dsimp only at k ok
   by_cases hz:aX z.length=true
   ·rw [if_pos hz] at k
    exact .inr (.inr (oJ z i c rfl rfl (b0 hz) q (k _ _ G H rfl (.refl hs) (rep_str.mpr rfl))))
   ·rw [if_neg hz] at ok; exact ok.elim
 ·exact ok.elim
noncomputable def xT (K:W.Frag)(E:XK)(r:List V→Hp→VK→Prop)(g:List D→Res D):Prop:=
 ∀ (G H:Hp) (vs:List V) (ds:List D) (Q:VK),Same G H→RepL K G ds vs→OkR E H (g ds)→(∀ d v' G' H',g ds= .ok d→Ext G H G' H'→Rep K G' d v'→Q v' H')→r vs H Q
noncomputable def bD (fs:DS→Res (List D))(g:List D→Res D):DS→Res D:=fun ρ=>(fs ρ).bind g
theorem ze {e:Expr}{r:List V→Hp→VK→Prop}{fs:DS→Res (List D)}{g:List D→Res D}(he:PE X e (HW r (tDA X.K E fs)))(h:xT X.K E r g):PD X E e (bD fs g):=by
 intro pins s σ G H ρ I hs hro ho
 refine aT (he pins s σ H (fun v H'=>∃ d G',bD fs g ρ= .ok d∧Ext G H G' H'∧Rep X.K G' d v) I ?_) fun u s' hZ113=>(by obtain ⟨v,H',I',r',d,G',e,x,rp⟩:=hZ113; exact ⟨d,e,v,G',H',I',r',x,rp⟩)
 refine ⟨G,ρ,hs,hro,ho.fst,fun ds e1 vs G1 H1 x1 p1=> ?_⟩
 exact h G1 H1 vs ds _ x1.gh p1 (ho.snd e1 x1.hh) fun d v' G' H' ed xx rp=>(dJ d G' (au e1 ed) (x1.trans xx) rp)
theorem ee {x:Str}{p pos:Pos}{e:Expr}{es:List Expr}{id:String}{r:List V→Hp→VK→Prop}{fs:DS→Res (List D)}{g:List D→Res D}(hc:dI X (.builtin id) r)(h:xT X.K E r g)(hg:Gl X x)(hm:X.mg x=none)(hv:bootBuiltins x=some (.builtin id))(ha:mB X E (e :: es) fs)
  (hn:x≠ "__name__" :=by decide) (hdb:(x == ("__debug__" :Str))=false:=by decide)
  (he:starEach (e :: es) X.env=(false,eval e X.env) :: starEach es X.env:=by rfl) (hpl:(backTo pos (starEach es X.env)).any (·.1)=false:=by rfl):PD X E (.Call (.Name x p) (e :: es) [] pos) (bD fs g):=
 ze (tt hc hg hm hv (jz ha) hn hdb he hpl) h
theorem lH {x:Str}{p pos:Pos}{e:Expr}{es:List Expr}{T:String}{r:List V→Hp→VK→Prop}{fs:DS→Res (List D)}{g:List D→Res D}(hc:dI X (.type T) r)(h:xT X.K E r g)(hg:Gl X x)(hm:X.mg x=none)(hv:bootBuiltins x=some (.type T))(ha:mB X E (e :: es) fs)
  (hn:x≠ "__name__" :=by decide) (hdb:(x == ("__debug__" :Str))=false:=by decide)
  (he:starEach (e :: es) X.env=(false,eval e X.env) :: starEach es X.env:=by rfl) (hpl:(backTo pos (starEach es X.env)).any (·.1)=false:=by rfl):PD X E (.Call (.Name x p) (e :: es) [] pos) (bD fs g):=
 ze (gK hc hg hm hv (jz ha) hn hdb he hpl) h
noncomputable def ba:List D→Res D
 | [.lst l]=> .ok (.int l.length)
 | [.tup l]=> .ok (.int l.length)
 | [.scr ns]=> .ok (.int ns.length)
 | _=> .bad
theorem Dc {K:W.Frag}:xT K E (fun xs H Q=>∃ p ys,xs=[.ref p]∧(gu K H p ys∨mE K H p ys)∧Q (.int ys.length) H) ba:=by
 intro G H vs ds Q hs rl ok k
 unfold ba at ok k
 split at ok
 ·obtain ⟨v,r,rfl,m,r0⟩:=rl.inv
  rw [r0.inv0]
  rw [rep_lst] at m
  obtain ⟨p,xs,rfl,sq,m⟩:=m
  exact ⟨p,xs,rfl,.inl (hs.seq sq.sq),k _ _ G H rfl (.refl hs) (by rw [m.length]; exact rep_int.mpr rfl)⟩
 ·obtain ⟨v,r,rfl,m,r0⟩:=rl.inv
  rw [r0.inv0]
  rw [rep_tup] at m
  obtain ⟨p,xs,rfl,sq,m⟩:=m
  exact ⟨p,xs,rfl,.inr (hs.seqT sq),k _ _ G H rfl (.refl hs) (by rw [m.length]; exact rep_int.mpr rfl)⟩
 ·obtain ⟨v,r,rfl,m,r0⟩:=rl.inv
  rw [r0.inv0]
  rw [wk] at m
  obtain ⟨p,rfl,sq⟩:=m
  exact ⟨p,_,rfl,.inl (hs.seq sq),k _ _ G H rfl (.refl hs) (by rw [List.length_map]; exact rep_int.mpr rfl)⟩
 ·exact ok.elim
noncomputable def Gy:List D→Res D
 | [.int i,.int j]=> .ok (.int (min i j))
 | _=> .bad
noncomputable def pO:List D→Res D
 | [.int i,.int j]=> .ok (.int (max i j))
 | _=> .bad
theorem Eh (i j:Int):(if j > i then j else i)=max i j:=by omega
theorem Al {K:W.Frag}:xT K E (fun xs H Q=>∃ i j,xs=[.int i,.int j]∧Q (.int (if j > i then j else i)) H) pO:=by
 intro G H vs ds Q hs rl ok k
 unfold pO at ok k
 split at ok
 ·refine bA (rl.inv) fun v r hS55 rx r0=> ?_; subst hS55
  refine bA (r0.inv) fun v2 r2 hS56 ry r1=> ?_; subst hS56
  rw [r1.inv0]
  rw [rep_int] at rx ry; subst rx ry
  refine (mi _ _ rfl ?_)
  rw [Eh]
  exact k _ _ G H rfl (.refl hs) (rep_int.mpr rfl)
 ·exact ok.elim
noncomputable def gB:List D→Res D
 | [.lst l]=> .ok (.lst l)
 | [.tup l]=> .ok (.lst l)
 | _=> .bad
noncomputable def on:List D→Res D
 | [.lst l]=> .ok (.tup l)
 | [.tup l]=> .ok (.tup l)
 | _=> .bad
theorem vx {K:W.Frag}:xT K E (fun xs H Q=>∃ p ys,xs=[.ref p]∧(gu K H p ys∨mE K H p ys)∧∀ l,H l=none→Q (.ref l) (br H l (.lst ys))) gB:=by
 intro G H vs ds Q hs rl ok k
 unfold gB at ok k
 split at ok
 ·obtain ⟨v,r,rfl,m,r0⟩:=rl.inv
  rw [r0.inv0]
  rw [rep_lst] at m
  obtain ⟨p,xs,rfl,sq,m⟩:=m
  exact ⟨p,xs,rfl,.inl (hs.seq sq.sq),fun l hl=>k _ _ _ _ rfl (.new hs hl _) (rep_lst.mpr ⟨l,xs,rfl,.of aw,m.mono (Ext.new hs hl _).gg⟩)⟩
 ·obtain ⟨v,r,rfl,m,r0⟩:=rl.inv
  rw [r0.inv0]
  rw [rep_tup] at m
  obtain ⟨p,xs,rfl,sq,m⟩:=m
  exact ⟨p,xs,rfl,.inr (hs.seqT sq),fun l hl=>k _ _ _ _ rfl (.new hs hl _) (rep_lst.mpr ⟨l,xs,rfl,.of aw,m.mono (Ext.new hs hl _).gg⟩)⟩
 ·exact ok.elim
theorem x_ {K:W.Frag}:xT K E (fun xs H Q=>∃ p ys,xs=[.ref p]∧((gu K H p ys∧∀ l,H l=none→Q (.ref l) (br H l (.tup ys)))∨(mE K H p ys∧Q (.ref p) H))) on:=by
 intro G H vs ds Q hs rl ok k
 unfold on at ok k
 split at ok
 ·obtain ⟨v,r,rfl,m,r0⟩:=rl.inv
  rw [r0.inv0]
  rw [rep_lst] at m
  obtain ⟨p,xs,rfl,sq,m⟩:=m
  exact ⟨p,xs,rfl,.inl ⟨hs.seq sq.sq,fun l hl=>k _ _ _ _ rfl (.new hs hl _) (rep_tup.mpr ⟨l,xs,rfl,.of aw,m.mono (Ext.new hs hl _).gg⟩)⟩⟩
 ·obtain ⟨v,r,rfl,m,r0⟩:=rl.inv
  rw [r0.inv0]
  have rx':=m
  rw [rep_tup] at m
  obtain ⟨p,xs,rfl,sq,m⟩:=m
  exact ⟨p,xs,rfl,.inr ⟨hs.seqT sq,k _ _ G H rfl (.refl hs) rx'⟩⟩
 ·exact ok.elim
inductive pureSp (K:W.Frag)(m:List D→Res D)(vs:List V)(H:Hp)(Q:VK)(E:XK):Prop
 | mk (ds:List D) (G:Hp) (s:Same G H) (r:RepL K G ds vs) (o:OkR E H (m ds)) (k:∀ d,m ds= .ok d→∀ v G' H',Ext G H G' H'→Rep K G' d v→Q v H')
noncomputable def lS (C:Addr)(m:Str):D→Bool
 | .ins C' ns _=>C' == C && !ns.contains m
 | _=>false
noncomputable def gG (C:Addr)(m:Str)(fo:DS→Res D)(g:List D→Res D):DS→Res D:=fun ρ=>(fo ρ).bind fun o=>if lS C m o=true then g [o] else .bad
theorem nP {fs:List (Str×V)}{m:Str}(h:(fs.map (·.1)).contains m=false):fs.lookup m=none:=by
 induction fs with
 | nil=>rfl
 | cons p r ih=>
  rw [List.map_cons,List.contains_cons,Bool.or_eq_false_iff] at h
  rw [List.lookup_cons]
  have:(m == p.1)=false:=h.1
  rw [this]
  exact ih h.2
theorem zc {pl:Sem Bool}{CX:rM}{k:Nat}{f C:Addr}{fd:FuncData}{ps:List Str}{g:List D→Res D}{m:Str}{apos pos:Pos}{o:Expr}{fo:DS→Res D}(hoo:PD X E o fo)(c:Cls X.K C)(hm:Meth X.K C m f)(F:FnOk X.prog X.w X.K X.mg X.base CX k f fd ps (pureSp X.K g))(hr:Room k X.A)(hb:Binds X.K fd ps [])(hx:cP CX X E)
  (hpe:PE X (.Call (.Attribute o m apos) [] [] pos) (CJ C m (pureSp X.K g) [] E (tD X.K E fo) EV)):PD X E (.Call (.Attribute o m apos) [] [] pos) (gG C m fo g):=by
 intro pins s σ G H ρ I hs hro ho
 refine aT (hpe pins s σ H (fun v H'=>∃ d G',gG C m fo g ρ= .ok d∧Ext G H G' H'∧Rep X.K G' d v) I ?_) fun u s' hZ114=>(by obtain ⟨v,H',I',r',d,G',e,x,rp⟩:=hZ114; exact ⟨d,e,v,G',H',I',r',x,rp⟩)
 refine ⟨G,ρ,hs,hro,ho.fst,fun dO e1 v G1 H1 x1 p1=> ?_⟩
 have kk:=ho.snd e1 x1.hh
 by_cases hi:lS C m dO=true
 ·rw [if_pos hi] at kk
  cases dO with
  | ins C' ns l=>
   have hi':=hi
   unfold lS at hi'
   rw [Bool.and_eq_true,beq_iff_eq,Bool.not_eq_true'] at hi'
   obtain ⟨rfl,hn⟩:=hi'
   have p1':=p1
   rw [rep_ins] at p1
   refine jA (p1) fun a dx fs hS57 ha hns _=> ?_; subst hS57
   refine (jT a dx fs rfl (x1.gh _ _ ha) (nP (by rw [hns]; exact hn)) ?_)
   exact ⟨[.ins C' ns l],G1,x1.gh,.cons p1' .nil,kk,fun d ed v G' H' xx rp=>(dJ d G' (au e1 (by rw [if_pos hi]; exact ed)) (x1.trans xx) rp)⟩
  | _=>cases hi
 ·rw [if_neg hi] at kk; exact kk.elim
noncomputable def sG:List Str→List D→Str→Option D
 | n :: ns,d :: ds,f=>if n=f then some d else sG ns ds f
 | _,_,_=>none
noncomputable def km (C:Addr)(f:Str):D→Res D
 | .ins C' ns ds=>if C'=C then (match sG ns ds f with | some d=> .ok d | none=> .bad) else .bad
 | _=> .bad
theorem lZ {K:W.Frag}{G:Hp}{f:Str}{d:D}:∀ {fs:List (Str×V)} {ds:List D},RepL K G ds (fs.map (·.2))→sG (fs.map (·.1)) ds f=some d→∃ v,fs.lookup f=some v∧Rep K G d v
 | [],ds,_,h=>by cases ds <;> cases h
 | (n,v) :: r,[],_,h=>by cases h
 | (n,v) :: r,e :: ds,hr,h=>by
  refine bA (hr.inv) fun v' r' q a b=> ?_
  rw [List.map_cons] at q
  cases q
  rw [List.map_cons] at h
  unfold sG at h
  rw [List.lookup_cons]
  by_cases hn:n=f
  ·subst hn
   rw [if_pos rfl] at h
   cases h
   rw [show (n == n)=true by simp]
   exact ⟨v,rfl,a⟩
  ·rw [if_neg hn] at h
   rw [show (f == n)=false by simpa using Ne.symm hn]
   exact lZ b h
theorem za {C:Addr}{o:Expr}{f:Str}{pos:Pos}{fo:DS→Res D}(ho:PD X E o fo)(c:Cls X.K C)(n:NoAttr X.K C f)(hb:attributeBase o f X.env (eval o X.env)=eval o X.env:=by rfl):PD X E (.Attribute o f pos) (fun ρ=>(fo ρ).bind (km C f)):=by
 intro pins s σ G H ρ I hs hro hok
 refine aT (EB (fL ho) hb pins s σ H (fun v H'=>∃ d G',((fo ρ).bind (km C f))= .ok d∧Ext G H G' H'∧Rep X.K G' d v) I ?_) fun u s' hZ115=>(by obtain ⟨v,H',I',r',d,G',e,x,rp⟩:=hZ115; exact ⟨d,e,v,G',H',I',r',x,rp⟩)
 refine ⟨G,ρ,hs,hro,hok.fst,fun dO e1 v G1 H1 x1 p1=> ?_⟩
 have kk:=hok.snd e1 x1.hh
 cases dO with
 | ins C' ns l=>
  unfold km at kk
  dsimp only at kk
  by_cases hc:C'=C
  ·subst hc
   rw [if_pos rfl] at kk
   rw [rep_ins] at p1
   refine jA (p1) fun a dx fs hS58 ha hns rl=> ?_; subst hS58
   subst hns
   cases q:sG (fs.map (·.1)) l f with
   | none=>rw [q] at kk; exact kk.elim
   | some d=>
    obtain ⟨v,hv,rv⟩:=lZ rl q
    exact ⟨a,C',dx,fs,v,rfl,x1.gh _ _ ha,c,n,hv,d,G1,au e1 (by unfold km; dsimp only; rw [if_pos rfl,q]),x1,rv⟩
  ·rw [if_neg hc] at kk; exact kk.elim
 | _=>exact kk.elim
theorem eS {op op':CmpOp}{a b c:Expr}{pos:Pos}{fa fb fc:DS→Res D}{o o':D→D→Res D}(ho:DOp X E (compareOp op) o)(ho':DOp X E (compareOp op') o')(ha:PD X E a fa)(hb:PD X E b fb)(hc:PD X E c fc)
  (hm:lastMarks [op,op'] [b,c]=false:=by with_unfolding_all rfl):ub X E (.Compare a [op,op'] [b,c] pos) (hX fa fb fc o o'):=by
 intro p s σ G H ρ I hs hro hok
 refine isTrue_chain (aT (ha p s σ G H ρ I hs hro hok.fst) fun v s1 ⟨d1,e1,v1,G1,H1,I1,r1,x1,p1⟩=>test_link (aT (hb p s1 σ G1 H1 ρ I1 x1.gh (hro.mono x1.gg) (hok.snd e1 x1.hh).fst) fun u s2 hZ117=> ?_)) hm
 obtain ⟨d2,e2,v2,G2,H2,I2,r2,x2,p2⟩:=hZ117
 have k2:=(hok.snd e1 x1.hh).snd e2 x2.hh
 refine aT (ho p s2 σ G2 H2 v1 v2 d1 d2 v u I2 x2.gh (p1.mono x2.gg) p2 r1 r2 k2.fst) fun d s3 hZ118=> ?_
 obtain ⟨d3,e3,v3,G3,H3,I3,r3,x3,p3⟩:=hZ118
 have k3:=k2.snd e3 x3.hh
 cases d3 with
 | bl k=>
  rw [rep_bl] at p3; subst p3; cases r3
  refine wpAny_truthy_bool ?_
  cases k with
  | false=>exact ite_ff ⟨au e1 (au e2 (au e3 rfl)),G3,H3,I3,(x1.trans x2).trans x3⟩
  | true=>
   refine ite_tt (test_last (aT (hc p s3 σ G3 H3 ρ I3 x3.gh (hro.mono ((x1.gg.trans x2.gg).trans x3.gg)) k3.fst) fun w' s4 hZ119=> ?_))
   obtain ⟨d4,e4,v4,G4,H4,I4,r4,x4,p4⟩:=hZ119
   have k4:=k3.snd e4 x4.hh
   refine aT (ho' p s4 σ G4 H4 v2 v4 d2 d4 u w' I4 x4.gh (p2.mono (x3.gg.trans x4.gg)) p4 r2 r4 k4.fst) fun d' s5 hZ120=> ?_
   obtain ⟨d5,e5,v5,G5,H5,I5,r5,x5,p5⟩:=hZ120
   have k5:=k4.snd e5 x5.hh
   cases d5 with
   | bl k=>
    rw [rep_bl] at p5; subst p5; cases r5
    exact wpAny_truthy_bool ⟨au e1 (au e2 (au e3 (au e4 (au e5 rfl)))),G5,H5,I5,(((x1.trans x2).trans x3).trans x4).trans x5⟩
   | _=>exact k5.elim
 | _=>exact k3.elim
end
mutual
noncomputable def bY:D→D→Bool
 | .non,.non=>true
 | .bl a,.bl b=>a == b
 | .int a,.int b=>a == b
 | .bl a,.int b=>(if a then (1:Int) else 0) == b
 | .int a,.bl b=>a == (if b then (1:Int) else 0)
 | .str a,.str b=>a == b
 | .lst a,.lst b=>eqBL a b
 | .tup a,.tup b=>eqBL a b
 | _,_=>false
noncomputable def eqBL:List D→List D→Bool
 | [],[]=>true
 | a :: as,b :: bs=>bY a b && eqBL as bs
 | _,_=>false
end
mutual
noncomputable def bg:Nat→D→Bool
 | _,.non=>true
 | _,.bl _=>true
 | _,.int _=>true
 | _,.str _=>true
 | n,.lst l=>decide (1≤n) && plL (n - 1) l
 | n,.tup l=>decide (1≤n) && plL (n - 1) l
 | _,.ins _ _ _=>false
 | _,.dct _ _=>false
 | _,.scr _=>false
 | _,.xc _=>false
 | _,.fdc _ _=>false
noncomputable def plL:Nat→List D→Bool
 | _,[]=>true
 | n,d :: ds=>bg n d && plL n ds
end
theorem v8:∀ {n:Nat} {ds:List D} {i:Nat} {d:D},plL n ds=true→ds[i]?=some d→bg n d=true
 | _,[],_,_,_,e=>by simp at e
 | n,a :: as,0,_,h,e=>by
  simp at e; subst e
  unfold plL at h; rw [Bool.and_eq_true] at h; exact h.1
 | n,a :: as,i+1,d,h,e=>by
  unfold plL at h; rw [Bool.and_eq_true] at h
  exact v8 (i:=i) h.2 (by simpa using e)
theorem sk:∀ {as bs:List D} {n:Nat} {e:Nat→Bool},as.length=bs.length→(∀ (i:Nat) (a b:D),as[i]?=some a→bs[i]?=some b→e i=bY a b)→n=as.length→(List.range n).all e=eqBL as bs
 | [],[],_,_,_,_,hn=>by subst hn; unfold eqBL; rfl
 | [],_ :: _,_,_,h,_,_=>by simp at h
 | _ :: _,[],_,_,h,_,_=>by simp at h
 | a :: as,b :: bs,n,e,h,he,hn=>by
  subst hn
  unfold eqBL
  rw [List.length_cons,List.range_succ_eq_map,List.all_cons,he 0 a b rfl rfl,List.all_map]
  congr 1
  exact sk (e:=e ∘ Nat.succ) (by simpa using h) (fun i x y hx hy=>he (i+1) x y (by simpa using hx) (by simpa using hy)) rfl
theorem no:∀ {as bs:List D},as.length≠bs.length→eqBL as bs=false
 | [],[],h=>absurd rfl h
 | [],_ :: _,_=>by unfold eqBL; rfl
 | _ :: _,[],_=>by unfold eqBL; rfl
 | a :: as,b :: bs,h=>by
  unfold eqBL
  rw [no (as:=as) (bs:=bs) (fun z=>h (by simp [z])),Bool.and_false]
mutual
theorem sr:∀ {n:Nat} {d:D},bg n d=true→bY d d=true
 | _,.non,_=>by unfold bY; rfl
 | _,.bl b,_=>by unfold bY; simp
 | _,.int b,_=>by unfold bY; simp
 | _,.str b,_=>by unfold bY; simp
 | n,.lst l,h=>by
  unfold bg at h; rw [Bool.and_eq_true] at h
  unfold bY; exact eqBL_refl h.2
 | n,.tup l,h=>by
  unfold bg at h; rw [Bool.and_eq_true] at h
  unfold bY; exact eqBL_refl h.2
 | _,.ins _ _ _,h=>by unfold bg at h; cases h
theorem eqBL_refl:∀ {n:Nat} {ds:List D},plL n ds=true→eqBL ds ds=true
 | _,[],_=>by unfold eqBL; rfl
 | n,d :: ds,h=>by
  unfold plL at h; rw [Bool.and_eq_true] at h
  unfold eqBL; rw [sr h.1,eqBL_refl h.2]; rfl
end
section
variable{X:Cx}{E:XK}{pins:List (Addr×Obj)}{σ:St}{G H:Hp}{s:Shared}
theorem Inv.isTup (I:Inv X pins σ H s){a:Addr}{xs:List V}(h:mE X.K H a xs):∃ its:List Value,Vals xs its∧s.heap.IsTuple a its.toArray:=by
 refine cy (I.tuple h) fun its r p _=> ?_
 exact ⟨its,r,p⟩
theorem Inv.isLst (I:Inv X pins σ H s){a:Addr}{xs:List V}(h:gu X.K H a xs):∃ its:List Value,Vals xs its∧s.heap.IsList a its.toArray:=by
 refine cy (I.list h) fun its r p _=> ?_
 exact ⟨its,r,p.isList⟩
mutual
theorem Rep.inj (I:Inv X pins σ H s)(hs:Same G H):∀ {n m:Nat} {d e:D} {x:V},bg n d=true→bg m e=true→Rep X.K G d x→Rep X.K G e x→d=e
 | _,_,.non,e,x,_,he,hx,hy=>by
  rw [rep_non] at hx; subst hx
  cases e with
  | non=>rfl
  | bl b=>rw [rep_bl] at hy; cases hy
  | int b=>rw [rep_int] at hy; cases hy
  | str b=>rw [rep_str] at hy; cases hy
  | lst b=>rw [rep_lst] at hy; refine mf (hy) fun _ _ q _=> ?_; cases q
  | tup b=>rw [rep_tup] at hy; refine mf (hy) fun _ _ q _=> ?_; cases q
  | ins _ _ _=>unfold bg at he; cases he
  | dct _ _=>unfold bg at he; cases he
  | scr _=>unfold bg at he; cases he
  | xc _=>unfold bg at he; cases he
  | fdc _ _=>unfold bg at he; cases he
 | _,_,.bl c,e,x,_,he,hx,hy=>by
  rw [rep_bl] at hx; subst hx
  cases e with
  | non=>rw [rep_non] at hy; cases hy
  | bl b=>rw [rep_bl] at hy; cases hy; rfl
  | int b=>rw [rep_int] at hy; cases hy
  | str b=>rw [rep_str] at hy; cases hy
  | lst b=>rw [rep_lst] at hy; refine mf (hy) fun _ _ q _=> ?_; cases q
  | tup b=>rw [rep_tup] at hy; refine mf (hy) fun _ _ q _=> ?_; cases q
  | ins _ _ _=>unfold bg at he; cases he
  | dct _ _=>unfold bg at he; cases he
  | scr _=>unfold bg at he; cases he
  | xc _=>unfold bg at he; cases he
  | fdc _ _=>unfold bg at he; cases he
 | _,_,.int c,e,x,_,he,hx,hy=>by
  rw [rep_int] at hx; subst hx
  cases e with
  | non=>rw [rep_non] at hy; cases hy
  | bl b=>rw [rep_bl] at hy; cases hy
  | int b=>rw [rep_int] at hy; cases hy; rfl
  | str b=>rw [rep_str] at hy; cases hy
  | lst b=>rw [rep_lst] at hy; refine mf (hy) fun _ _ q _=> ?_; cases q
  | tup b=>rw [rep_tup] at hy; refine mf (hy) fun _ _ q _=> ?_; cases q
  | ins _ _ _=>unfold bg at he; cases he
  | dct _ _=>unfold bg at he; cases he
  | scr _=>unfold bg at he; cases he
  | xc _=>unfold bg at he; cases he
  | fdc _ _=>unfold bg at he; cases he
 | _,_,.str c,e,x,_,he,hx,hy=>by
  rw [rep_str] at hx; subst hx
  cases e with
  | non=>rw [rep_non] at hy; cases hy
  | bl b=>rw [rep_bl] at hy; cases hy
  | int b=>rw [rep_int] at hy; cases hy
  | str b=>rw [rep_str] at hy; cases hy; rfl
  | lst b=>rw [rep_lst] at hy; refine mf (hy) fun _ _ q _=> ?_; cases q
  | tup b=>rw [rep_tup] at hy; refine mf (hy) fun _ _ q _=> ?_; cases q
  | ins _ _ _=>unfold bg at he; cases he
  | dct _ _=>unfold bg at he; cases he
  | scr _=>unfold bg at he; cases he
  | xc _=>unfold bg at he; cases he
  | fdc _ _=>unfold bg at he; cases he
 | n,m,.lst c,e,x,hd,he,hx,hy=>by
  rw [rep_lst] at hx
  refine bA (hx) fun a xs hS59 sq rl=> ?_; subst hS59
  unfold bg at hd; rw [Bool.and_eq_true] at hd
  cases e with
  | non=>rw [rep_non] at hy; cases hy
  | bl b=>rw [rep_bl] at hy; cases hy
  | int b=>rw [rep_int] at hy; cases hy
  | str b=>rw [rep_str] at hy; cases hy
  | lst b=>
   rw [rep_lst] at hy
   refine bA (hy) fun a' ys q o p=> ?_
   cases q
   rw [I.list_inj (hs.seq o.sq) (hs.seq sq.sq)] at p
   unfold bg at he; rw [Bool.and_eq_true] at he
   rw [RepL.inj I hs hd.2 he.2 rl p]
  | tup b=>
   rw [rep_tup] at hy
   refine bA (hy) fun a' ys q o p=> ?_
   cases q
   obtain ⟨_,_,p1⟩:=I.isLst (hs.seq sq.sq)
   obtain ⟨_,_,p2⟩:=I.isTup (hs.seqT o.sq)
   exact absurd rfl (SeqAt.ne_of_list_tuple p1 p2)
  | ins _ _ _=>unfold bg at he; cases he
  | dct _ _=>unfold bg at he; cases he
  | scr _=>unfold bg at he; cases he
  | xc _=>unfold bg at he; cases he
  | fdc _ _=>unfold bg at he; cases he
 | n,m,.tup c,e,x,hd,he,hx,hy=>by
  rw [rep_tup] at hx
  refine bA (hx) fun a xs hS60 sq rl=> ?_; subst hS60
  unfold bg at hd; rw [Bool.and_eq_true] at hd
  cases e with
  | non=>rw [rep_non] at hy; cases hy
  | bl b=>rw [rep_bl] at hy; cases hy
  | int b=>rw [rep_int] at hy; cases hy
  | str b=>rw [rep_str] at hy; cases hy
  | tup b=>
   rw [rep_tup] at hy
   refine bA (hy) fun a' ys q o p=> ?_
   cases q
   rw [I.tuple_inj (hs.seqT o.sq) (hs.seqT sq.sq)] at p
   unfold bg at he; rw [Bool.and_eq_true] at he
   rw [RepL.inj I hs hd.2 he.2 rl p]
  | lst b=>
   rw [rep_lst] at hy
   refine bA (hy) fun a' ys q o p=> ?_
   cases q
   obtain ⟨_,_,p1⟩:=I.isLst (hs.seq o.sq)
   obtain ⟨_,_,p2⟩:=I.isTup (hs.seqT sq.sq)
   exact absurd rfl (SeqAt.ne_of_list_tuple p1 p2)
  | ins _ _ _=>unfold bg at he; cases he
  | dct _ _=>unfold bg at he; cases he
  | scr _=>unfold bg at he; cases he
  | xc _=>unfold bg at he; cases he
  | fdc _ _=>unfold bg at he; cases he
 | _,_,.ins _ _ _,_,_,hd,_,_,_=>by unfold bg at hd; cases hd
theorem RepL.inj (I:Inv X pins σ H s)(hs:Same G H):∀ {n m:Nat} {ds es:List D} {xs:List V},plL n ds=true→plL m es=true→RepL X.K G ds xs→RepL X.K G es xs→ds=es
 | _,_,[],es,_,_,_,h,h'=>by
  rw [h.inv0] at h'
  cases es with
  | nil=>rfl
  | cons e es=>refine mf (h'.inv) fun _ _ q _=> ?_; cases q
 | _,_,d :: ds,es,_,hd,he,h,h'=>by
  refine bA (h.inv) fun v r hS61 a b=> ?_; subst hS61
  cases es with
  | nil=>have z:=h'.inv0; cases z
  | cons e es=>
   refine bA (h'.inv) fun v' r' q a' b'=> ?_
   cases q
   unfold plL at hd he
   rw [Bool.and_eq_true] at hd he
   rw [Rep.inj I hs hd.1 he.1 a a',RepL.inj I hs hd.2 he.2 b b']
end
end
end L2
namespace L2
open PySem PySem.Spec PyProof.Rows PySem.SeqAt
section
variable{X:Cx}{E:XK}{pins:List (Addr×Obj)}{σ:St}{G H:Hp}{s:Shared}
noncomputable def Hq (A:Around)(s:Shared)(u v:Value)(b:Bool):Prop:=EqAt A s u v b∧RcAt A s u v b∧RcNeAt A s u v (!b)
theorem wq {xs:List V}{us:List Value}(r:Vals xs us){j:Nat}(h:j < us.toArray.size):∃ x,xs[j]?=some x∧RelV x us.toArray[j]:=by
 have hl:=r.length
 have h':j < us.length:=by simpa using h
 have hx:j < xs.length:=by omega
 obtain ⟨u,hu,ru⟩:=r.get (i:=j) (x:=xs[j]) (by simp [hx])
 refine ⟨xs[j],by simp [hx],?_⟩
 have e:us.toArray[j]=u:=by
  have q:us[j]?=some us[j]:=by simp [h']
  rw [q] at hu
  cases hu
  simp
 rw [e]; exact ru
theorem ki {n:Nat}{ds es:List D}{xs ys:List V}{us vs:List Value}{A:Around}(rd:RepL X.K G ds xs)(re:RepL X.K G es ys)(ru:Vals xs us)(rv:Vals ys vs)
  (ih:∀ (d e:D) (x y:V) (u v:Value),d∈ds→e∈es→Rep X.K G d x→Rep X.K G e y→RelV x u→RelV y v→EqAt A s u v (bY d e)) :
  ∀ j (h1:j < us.toArray.size) (h2:j < vs.toArray.size),EqAt A s us.toArray[j] vs.toArray[j] (bY (ds.getD j .non) (es.getD j .non)):=by
 intro j h1 h2
 obtain ⟨x,hx,rx⟩:=wq ru h1
 obtain ⟨y,hy,ry⟩:=wq rv h2
 have l1:=rd.length
 have l2:=re.length
 have jx:j < ds.length:=by rw [l1]; exact (d7 hx).1
 have jy:j < es.length:=by rw [l2]; exact (d7 hy).1
 have e1:ds[j]?=some ds[j]:=by simp [jx]
 have e2:es[j]?=some es[j]:=by simp [jy]
 obtain ⟨x',hx',px⟩:=rd.get e1
 obtain ⟨y',hy',py⟩:=re.get e2
 rw [hx] at hx'; cases hx'
 rw [hy] at hy'; cases hy'
 have g1:ds.getD j .non=ds[j]:=by simp [List.getD,e1]
 have g2:es.getD j .non=es[j]:=by simp [List.getD,e2]
 rw [g1,g2]
 exact ih _ _ x y _ _ (List.getElem_mem jx) (List.getElem_mem jy) px py rx ry
theorem vI {ds:List D}{i:Nat}{d:D}(h:ds[i]?=some d):ds.getD i .non=d:=by simp [List.getD,h]
theorem np {ds es:List D}{us vs:List Value}{xs ys:List V}(rd:RepL X.K G ds xs)(re:RepL X.K G es ys)(ru:Vals xs us)(rv:Vals ys vs)(hsz:us.toArray.size=vs.toArray.size) :
  (List.range us.toArray.size).all (fun j=>bY (ds.getD j .non) (es.getD j .non))=eqBL ds es:=by
 have l1:=rd.length; have l2:=re.length; have l3:=ru.length; have l4:=rv.length
 have h1:us.length=vs.length:=by simpa using hsz
 refine sk (by omega) (fun i a b ha hb=> ?_) (by simp; omega)
 rw [vI ha,vI hb]
noncomputable def Hu (K:W.Frag)(G:Hp)(s:Shared):D→Value→Prop
 | .non,u=>u= .none
 | .bl b,u=>u= .bool b
 | .int i,u=>∃ t,u= .int i t
 | .str x,u=>∃ t,u= .str x t
 | .lst ds,u=>∃ a its xs,u= .ref a∧s.heap.IsList a its.toArray∧RepL K G ds xs∧Vals xs its
 | .tup ds,u=>∃ a its xs,u= .ref a∧s.heap.IsTuple a its.toArray∧RepL K G ds xs∧Vals xs its
 | .ins _ _ _,_=>True
 | .dct _ _,_=>True
 | .scr _,_=>True
 | .xc _,_=>True
 | .fdc _ _,_=>True
theorem mK (I:Inv X pins σ H s)(hs:Same G H){d:D}{x:V}{u:Value}(rx:Rep X.K G d x)(ru:RelV x u):Hu X.K G s d u:=by
 cases d with
 | non=>rw [rep_non] at rx; subst rx; exact ru
 | bl b=>rw [rep_bl] at rx; subst rx; exact ru
 | int i=>rw [rep_int] at rx; subst rx; exact ru
 | str i=>rw [rep_str] at rx; subst rx; exact ru
 | lst l=>
  rw [rep_lst] at rx
  refine bA (rx) fun a xs hS62 sq rl=> ?_; subst hS62
  obtain ⟨its,r,p⟩:=I.isLst (hs.seq sq.sq)
  exact (jT a its xs ru p rl r)
 | tup l=>
  rw [rep_tup] at rx
  refine bA (rx) fun a xs hS63 sq rl=> ?_; subst hS63
  obtain ⟨its,r,p⟩:=I.isTup (hs.seqT sq.sq)
  exact (jT a its xs ru p rl r)
 | ins _ _ _=>trivial
 | dct _ _=>trivial
 | scr _=>trivial
 | xc _=>trivial
 | fdc _ _=>trivial
theorem wN {n m:Nat}{ds es:List D}{a b:Addr}{xs ys:List V}{us vs:List Value}{A:Around}(hu:A.units < cLine)(ha:s.heap.IsList a us.toArray)(hb:s.heap.IsList b vs.toArray)(rd:RepL X.K G ds xs)(re:RepL X.K G es ys)(ru:Vals xs us)(rv:Vals ys vs)
  (same:a=b→eqBL ds es=true)
  (ih:∀ (d e:D) (x y:V) (u v:Value),d∈ds→e∈es→Rep X.K G d x→Rep X.K G e y→RelV x u→RelV y v→EqAt A.in1 s u v (bY d e)):Hq A s (.ref a) (.ref b) (eqBL ds es):=by
 have l1:=rd.length; have l2:=re.length; have l3:=ru.length; have l4:=rv.length
 have rc:RcAt A s (.ref a) (.ref b) (eqBL ds es)∧RcNeAt A s (.ref a) (.ref b) (!eqBL ds es):=by
  by_cases p:us.toArray.size=vs.toArray.size
  ·have e1:=np rd re ru rv p
   rw [← e1]
   exact ⟨RcAt.lists ha hb p hu (ki (n:=n) rd re ru rv ih),RcNeAt.lists ha hb p hu (ki (n:=n) rd re ru rv ih)⟩
  ·have e1:eqBL ds es=false:=no fun z=>p (by simp; omega)
   rw [e1]
   have hne:(us.toArray.size != vs.toArray.size)=true:=by simpa using p
   exact ⟨RcAt.lists_lengths ha hb hne hu,RcNeAt.lists_lengths ha hb hne hu⟩
 refine ⟨?_,rc.1,rc.2⟩
 by_cases hab:a=b
 ·subst hab
  rw [same rfl]
  exact EqAt.same _
 ·exact EqAt.of_refs hab rc.1
theorem um {n m:Nat}{ds es:List D}{a b:Addr}{xs ys:List V}{us vs:List Value}{A:Around}(hu:A.units < cLine)(ha:s.heap.IsTuple a us.toArray)(hb:s.heap.IsTuple b vs.toArray)(rd:RepL X.K G ds xs)(re:RepL X.K G es ys)(ru:Vals xs us)(rv:Vals ys vs)
  (same:a=b→eqBL ds es=true)
  (ih:∀ (d e:D) (x y:V) (u v:Value),d∈ds→e∈es→Rep X.K G d x→Rep X.K G e y→RelV x u→RelV y v→EqAt A.in1 s u v (bY d e)):Hq A s (.ref a) (.ref b) (eqBL ds es):=by
 have l1:=rd.length; have l2:=re.length; have l3:=ru.length; have l4:=rv.length
 have val:((List.range (min us.toArray.size vs.toArray.size)).all (fun j=>bY (ds.getD j .non) (es.getD j .non)) && us.toArray.size == vs.toArray.size)=eqBL ds es:=by
  by_cases p:us.toArray.size=vs.toArray.size
  ·have e1:=np rd re ru rv p
   rw [← p,Nat.min_self,e1]
   simp
  ·have e1:eqBL ds es=false:=no fun z=>p (by simp; omega)
   have e2:(us.toArray.size == vs.toArray.size)=false:=by simpa using p
   rw [e1,e2,Bool.and_false]
 have rc:RcAt A s (.ref a) (.ref b) (eqBL ds es)∧RcNeAt A s (.ref a) (.ref b) (!eqBL ds es):=by
  rw [← val]
  exact ⟨RcAt.tuples ha hb hu (ki (n:=n) rd re ru rv ih),RcNeAt.tuples ha hb hu (ki (n:=n) rd re ru rv ih)⟩
 refine ⟨?_,rc.1,rc.2⟩
 by_cases hab:a=b
 ·subst hab
  rw [same rfl]
  exact EqAt.same _
 ·exact EqAt.of_refs hab rc.1
theorem d6 {n:Nat}{ds:List D}{d:D}(h:plL n ds=true)(hd:d∈ds):bg n d=true:=by
 obtain ⟨i,hi⟩:=List.getElem?_of_mem hd
 exact v8 h hi
theorem pi (I:Inv X pins σ H s)(hs:Same G H):∀ (n m:Nat) (d e:D) (x y:V) (u v:Value) (A:Around),bg n d=true→bg m e=true→Rep X.K G d x→Rep X.K G e y→RelV x u→RelV y v→A.units+n < cLine→Hq A s u v (bY d e):=by
 intro n
 induction n with
 | zero=>
  intro m d e x y u v A C r o F N P hu
  have kd:=mK I hs o N
  have w:=mK I hs F P
  have q:A.units < cLine:=by omega
  cases d with
  | lst l=>unfold bg at C; simp at C
  | tup l=>unfold bg at C; simp at C
  | ins _ _ _=>unfold bg at C; cases C
  | dct _ _=>unfold bg at C; cases C
  | scr _=>unfold bg at C; cases C
  | xc _=>unfold bg at C; cases C
  | fdc _ _=>unfold bg at C; cases C
  | non=>
   cases (show u= .none from kd)
   cases e with
   | non=>cases (show v= .none from w); unfold bY; exact ⟨EqAt.same _,RcAt.none_none,RcNeAt.none_none⟩
   | bl b=>cases (show v= .bool b from w); unfold bY; exact ⟨EqAt.none_bool _,RcAt.none_bool _,RcNeAt.none_bool _⟩
   | int b=>obtain ⟨t,rfl⟩:=w; unfold bY; exact ⟨EqAt.none_int _ _,RcAt.none_int _ _,RcNeAt.none_int _ _⟩
   | str b=>obtain ⟨t,rfl⟩:=w; unfold bY; exact ⟨EqAt.none_str _ _,RcAt.none_str _ _,RcNeAt.none_str _ _⟩
   | lst b=>refine oX (w) fun a E O hS64 p _=> ?_; subst hS64; unfold bY; exact ⟨EqAt.none_list p q,RcAt.none_list p q,RcNeAt.none_list p q⟩
   | tup b=>refine oX (w) fun a E O hS65 p _=> ?_; subst hS65; unfold bY; exact ⟨EqAt.none_tuple p q,RcAt.none_tuple p q,RcNeAt.none_tuple p q⟩
   | ins _ _ _=>unfold bg at r; cases r
   | dct _ _=>unfold bg at r; cases r
   | scr _=>unfold bg at r; cases r
   | xc _=>unfold bg at r; cases r
   | fdc _ _=>unfold bg at r; cases r
  | bl c=>
   cases (show u= .bool c from kd)
   cases e with
   | non=>cases (show v= .none from w); unfold bY; exact ⟨EqAt.bool_none _,RcAt.bool_none _,RcNeAt.bool_none _⟩
   | bl b=>cases (show v= .bool b from w); unfold bY; exact ⟨EqAt.bool_bool _ _,RcAt.bool_bool _ _,RcNeAt.bool_bool _ _⟩
   | int b=>obtain ⟨t,rfl⟩:=w; unfold bY; exact ⟨EqAt.bool_int _ _ _,RcAt.bool_int _ _ _,RcNeAt.bool_int _ _ _⟩
   | str b=>obtain ⟨t,rfl⟩:=w; unfold bY; exact ⟨EqAt.bool_str _ _ _,RcAt.bool_str _ _ _,RcNeAt.bool_str _ _ _⟩
   | lst b=>refine oX (w) fun a E O hS66 p _=> ?_; subst hS66; unfold bY; exact ⟨EqAt.bool_list _ p q,RcAt.bool_list _ p q,RcNeAt.bool_list _ p q⟩
   | tup b=>refine oX (w) fun a E O hS67 p _=> ?_; subst hS67; unfold bY; exact ⟨EqAt.bool_tuple _ p q,RcAt.bool_tuple _ p q,RcNeAt.bool_tuple _ p q⟩
   | ins _ _ _=>unfold bg at r; cases r
   | dct _ _=>unfold bg at r; cases r
   | scr _=>unfold bg at r; cases r
   | xc _=>unfold bg at r; cases r
   | fdc _ _=>unfold bg at r; cases r
  | int c=>
   obtain ⟨t0,rfl⟩:=kd
   cases e with
   | non=>cases (show v= .none from w); unfold bY; exact ⟨EqAt.int_none _ _,RcAt.int_none _ _,RcNeAt.int_none _ _⟩
   | bl b=>cases (show v= .bool b from w); unfold bY; exact ⟨EqAt.int_bool _ _ _,RcAt.int_bool _ _ _,RcNeAt.int_bool _ _ _⟩
   | int b=>obtain ⟨t,rfl⟩:=w; unfold bY; exact ⟨EqAt.int_int _ _ _ _,RcAt.int_int _ _ _ _,RcNeAt.int_int _ _ _ _⟩
   | str b=>obtain ⟨t,rfl⟩:=w; unfold bY; exact ⟨EqAt.int_str _ _ _ _,RcAt.int_str _ _ _ _,RcNeAt.int_str _ _ _ _⟩
   | lst b=>refine oX (w) fun a E O hS68 p _=> ?_; subst hS68; unfold bY; exact ⟨EqAt.int_list _ _ p q,RcAt.int_list _ _ p q,RcNeAt.int_list _ _ p q⟩
   | tup b=>refine oX (w) fun a E O hS69 p _=> ?_; subst hS69; unfold bY; exact ⟨EqAt.int_tuple _ _ p q,RcAt.int_tuple _ _ p q,RcNeAt.int_tuple _ _ p q⟩
   | ins _ _ _=>unfold bg at r; cases r
   | dct _ _=>unfold bg at r; cases r
   | scr _=>unfold bg at r; cases r
   | xc _=>unfold bg at r; cases r
   | fdc _ _=>unfold bg at r; cases r
  | str c=>
   obtain ⟨t0,rfl⟩:=kd
   cases e with
   | non=>cases (show v= .none from w); unfold bY; exact ⟨EqAt.str_none _ _,RcAt.str_none _ _,RcNeAt.str_none _ _⟩
   | bl b=>cases (show v= .bool b from w); unfold bY; exact ⟨EqAt.str_bool _ _ _,RcAt.str_bool _ _ _,RcNeAt.str_bool _ _ _⟩
   | int b=>obtain ⟨t,rfl⟩:=w; unfold bY; exact ⟨EqAt.str_int _ _ _ _,RcAt.str_int _ _ _ _,RcNeAt.str_int _ _ _ _⟩
   | str b=>obtain ⟨t,rfl⟩:=w; unfold bY; exact ⟨EqAt.str_str _ _ _ _,RcAt.str_str _ _ _ _,RcNeAt.str_str _ _ _ _⟩
   | lst b=>refine oX (w) fun a E O hS70 p _=> ?_; subst hS70; unfold bY; exact ⟨EqAt.str_list _ _ p q,RcAt.str_list _ _ p q,RcNeAt.str_list _ _ p q⟩
   | tup b=>refine oX (w) fun a E O hS71 p _=> ?_; subst hS71; unfold bY; exact ⟨EqAt.str_tuple _ _ p q,RcAt.str_tuple _ _ p q,RcNeAt.str_tuple _ _ p q⟩
   | ins _ _ _=>unfold bg at r; cases r
   | dct _ _=>unfold bg at r; cases r
   | scr _=>unfold bg at r; cases r
   | xc _=>unfold bg at r; cases r
   | fdc _ _=>unfold bg at r; cases r
 | succ n ih=>
  intro m d e x y u v A C r o F N P hu
  have kd:=mK I hs o N
  have w:=mK I hs F P
  have q:A.units < cLine:=by omega
  have hu1:A.in1.units+n < cLine:=by show A.units+1+n < cLine; omega
  have M:∀ (c:D),bg (n+1) c=true→(match c with | .lst _=>False | .tup _=>False | _=>True)→bg n c=true:=fun c h hc=>by cases c <;> first | exact hc.elim | (unfold bg at h ⊢; exact h)
  cases d with
  | lst l=>
   refine jA (kd) fun a us O hS72 B rl r1=> ?_; subst hS72
   have hd':=C
   unfold bg at hd'; rw [Bool.and_eq_true] at hd'
   cases e with
   | non=>cases (show v= .none from w); unfold bY; exact ⟨EqAt.list_none B q,RcAt.list_none B q,RcNeAt.list_none B q⟩
   | bl b=>cases (show v= .bool b from w); unfold bY; exact ⟨EqAt.list_bool _ B q,RcAt.list_bool _ B q,RcNeAt.list_bool _ B q⟩
   | int b=>obtain ⟨t,rfl⟩:=w; unfold bY; exact ⟨EqAt.list_int _ _ B q,RcAt.list_int _ _ B q,RcNeAt.list_int _ _ B q⟩
   | str b=>obtain ⟨t,rfl⟩:=w; unfold bY; exact ⟨EqAt.list_str _ _ B q,RcAt.list_str _ _ B q,RcNeAt.list_str _ _ B q⟩
   | lst l2=>
    refine jA (w) fun b vs ys hS73 J L r2=> ?_; subst hS73
    have he':=r
    unfold bg at he'; rw [Bool.and_eq_true] at he'
    unfold bY
    refine wN (X:=X) (n:=n) (m:=m) q B J rl L r1 r2 (fun hab=> ?_) fun d' e' x' y' u' v' hm1 hm2 q1 q2 q3 q4=>(ih (m - 1) d' e' x' y' u' v' A.in1 (d6 hd'.2 hm1) (d6 he'.2 hm2) q1 q2 q3 q4 hu1).1
    subst hab
    have ex:x= .ref a:=by rw [rep_lst] at o; refine mf (o) fun a' _ hS74 _=> ?_; subst hS74; cases N; rfl
    have ey:y= .ref a:=by rw [rep_lst] at F; refine mf (F) fun a' _ hS75 _=> ?_; subst hS75; cases P; rfl
    subst ex ey
    have z:=Rep.inj I hs C r o F
    cases z
    exact eqBL_refl hd'.2
   | tup l2=>
    refine jA (w) fun b vs ys hS76 J L r2=> ?_; subst hS76
    unfold bY
    exact ⟨EqAt.list_tuple B J q,RcAt.list_tuple B J q,RcNeAt.list_tuple B J q⟩
   | ins _ _ _=>unfold bg at r; cases r
   | dct _ _=>unfold bg at r; cases r
   | scr _=>unfold bg at r; cases r
   | xc _=>unfold bg at r; cases r
   | fdc _ _=>unfold bg at r; cases r
  | tup l=>
   refine jA (kd) fun a us O hS77 B rl r1=> ?_; subst hS77
   have hd':=C
   unfold bg at hd'; rw [Bool.and_eq_true] at hd'
   cases e with
   | non=>cases (show v= .none from w); unfold bY; exact ⟨EqAt.tuple_none B q,RcAt.tuple_none B q,RcNeAt.tuple_none B q⟩
   | bl b=>cases (show v= .bool b from w); unfold bY; exact ⟨EqAt.tuple_bool _ B q,RcAt.tuple_bool _ B q,RcNeAt.tuple_bool _ B q⟩
   | int b=>obtain ⟨t,rfl⟩:=w; unfold bY; exact ⟨EqAt.tuple_int _ _ B q,RcAt.tuple_int _ _ B q,RcNeAt.tuple_int _ _ B q⟩
   | str b=>obtain ⟨t,rfl⟩:=w; unfold bY; exact ⟨EqAt.tuple_str _ _ B q,RcAt.tuple_str _ _ B q,RcNeAt.tuple_str _ _ B q⟩
   | tup l2=>
    refine jA (w) fun b vs ys hS78 J L r2=> ?_; subst hS78
    have he':=r
    unfold bg at he'; rw [Bool.and_eq_true] at he'
    unfold bY
    refine um (X:=X) (n:=n) (m:=m) q B J rl L r1 r2 (fun hab=> ?_) fun d' e' x' y' u' v' hm1 hm2 q1 q2 q3 q4=>(ih (m - 1) d' e' x' y' u' v' A.in1 (d6 hd'.2 hm1) (d6 he'.2 hm2) q1 q2 q3 q4 hu1).1
    subst hab
    have ex:x= .ref a:=by rw [rep_tup] at o; refine mf (o) fun a' _ hS79 _=> ?_; subst hS79; cases N; rfl
    have ey:y= .ref a:=by rw [rep_tup] at F; refine mf (F) fun a' _ hS80 _=> ?_; subst hS80; cases P; rfl
    subst ex ey
    have z:=Rep.inj I hs C r o F
    cases z
    exact eqBL_refl hd'.2
   | lst l2=>
    refine jA (w) fun b vs ys hS81 J L r2=> ?_; subst hS81
    unfold bY
    exact ⟨EqAt.tuple_list B J q,RcAt.tuple_list B J q,RcNeAt.tuple_list B J q⟩
   | ins _ _ _=>unfold bg at r; cases r
   | dct _ _=>unfold bg at r; cases r
   | scr _=>unfold bg at r; cases r
   | xc _=>unfold bg at r; cases r
   | fdc _ _=>unfold bg at r; cases r
  | ins _ _ _=>unfold bg at C; cases C
  | dct _ _=>unfold bg at C; cases C
  | scr _=>unfold bg at C; cases C
  | xc _=>unfold bg at C; cases C
  | fdc _ _=>unfold bg at C; cases C
  | non=>exact ih m _ e x y u v A (M _ C trivial) r o F N P (by omega)
  | bl c=>exact ih m _ e x y u v A (M _ C trivial) r o F N P (by omega)
  | int c=>exact ih m _ e x y u v A (M _ C trivial) r o F N P (by omega)
  | str c=>exact ih m _ e x y u v A (M _ C trivial) r o F N P (by omega)
noncomputable def xQ (d e:D):Res D:=if bg 20 d=true∧bg 20 e=true then .ok (.bl (bY d e)) else .bad
noncomputable def uJ (d e:D):Res D:=if bg 20 d=true∧bg 20 e=true then .ok (.bl (!bY d e)) else .bad
theorem sd (hu:X.A.units+64 < cLine):DOp X E (compareOp .Eq) xQ:=by
 intro pins s σ G H x y dx dy v u I hs rx ry rv ru ok
 unfold xQ at ok ⊢
 by_cases h:bg 20 dx=true∧bg 20 dy=true
 ·rw [if_pos h]
  exact (pi I hs 20 20 dx dy x y v u X.A h.1 h.2 rx ry rv ru (by omega)).2.1 _ _ _ _ ⟨_,rfl,.bl (bY dx dy),G,H,I,rfl,.refl hs,rep_bl.mpr rfl⟩
 ·rw [if_neg h] at ok; exact ok.elim
theorem ng (hu:X.A.units+64 < cLine):DOp X E (compareOp .NotEq) uJ:=by
 intro pins s σ G H x y dx dy v u I hs rx ry rv ru ok
 unfold uJ at ok ⊢
 by_cases h:bg 20 dx=true∧bg 20 dy=true
 ·rw [if_pos h]
  exact (pi I hs 20 20 dx dy x y v u X.A h.1 h.2 rx ry rv ru (by omega)).2.2 _ _ _ _ ⟨_,rfl,.bl (!bY dx dy),G,H,I,rfl,.refl hs,rep_bl.mpr rfl⟩
 ·rw [if_neg h] at ok; exact ok.elim
end
section
variable{X:Cx}{E:XK}{pins:List (Addr×Obj)}{σ:St}{G H:Hp}{s:Shared}
open Classical in
noncomputable def zX (K:W.Frag)(G:Hp)(ds:List D)(dx:D)(u:Value):Bool:=decide (∃ d x,d∈ds∧Rep K G d x∧RelV x u∧bY d dx=true)
theorem iZ (I:Inv X pins σ H s)(hs:Same G H){ds:List D}{dx d:D}{x:V}{u:Value}(hp:plL 19 ds=true)(hd:d∈ds)(rx:Rep X.K G d x)(ru:RelV x u):zX X.K G ds dx u=bY d dx:=by
 unfold zX
 cases e:bY d dx with
 | true=>exact @decide_eq_true _ (Classical.propDecidable _) (lv d x hd rx ru e)
 | false=>
  refine @decide_eq_false _ (Classical.propDecidable _) fun hZ121=> ?_
  refine oC (hZ121) fun d' x' hd' rx' ru' e'=> ?_
  have hx:x'=x:=RelV.inj ru' ru
  subst hx
  rw [Rep.inj I hs (d6 hp hd') (d6 hp hd) rx' rx,e] at e'
  cases e'
theorem hG {ds:List D}{xs:List V}{us:List Value}{f:Value→Bool}{g:D→Bool}:RepL X.K G ds xs→Vals xs us→(∀ d x u,d∈ds→Rep X.K G d x→RelV x u→f u=g d)→us.any f=ds.any g:=by
 intro rd
 induction ds generalizing xs us with
 | nil=>intro r _; rw [rd.inv0] at r; cases r; rfl
 | cons d ds ih=>
  intro r h
  refine bA (rd.inv) fun v q hS82 a b=> ?_; subst hS82
  cases r with
  | cons r1 r2=>
   rw [List.any_cons,List.any_cons,h d v _ List.mem_cons_self a r1,ih b r2 fun d' x' u' hm=>h d' x' u' (cN hm)]
noncomputable def uc (neg:Bool)(d e:D):Res D:=match e with
 | .lst l=>if plL 19 l=true∧bg 19 d=true then .ok (.bl (if neg then !(l.any fun y=>bY y d) else l.any fun y=>bY y d)) else .bad
 | .tup l=>if plL 19 l=true∧bg 19 d=true then .ok (.bl (if neg then !(l.any fun y=>bY y d) else l.any fun y=>bY y d)) else .bad
 | _=> .bad
theorem mL {ds:List D}{xs:List V}{us:List Value}{u:Value}(rd:RepL X.K G ds xs)(r:Vals xs us)(hu:u∈us):∃ d x,d∈ds∧Rep X.K G d x∧RelV x u:=by
 induction ds generalizing xs us with
 | nil=>rw [rd.inv0] at r; cases r; cases hu
 | cons d ds ih=>
  refine bA (rd.inv) fun v q hS83 a b=> ?_; subst hS83
  cases r with
  | cons r1 r2=>
   rcases List.mem_cons.mp hu with rfl | hu
   ·exact (dJ d v List.mem_cons_self a r1)
   ·refine bA (ih b r2 hu) fun d' x' h1 h2 h3=> ?_
    exact (dJ d' x' (cN h1) h2 h3)
theorem FA (hu:X.A.units+64 < cLine):DOp X E (compareOp .In) (uc false):=by
 intro pins s σ G H x y C dy v u I j rx ry rv ru ok
 unfold uc at ok ⊢
 cases dy with
 | lst l=>
  dsimp only at ok ⊢
  by_cases h:plL 19 l=true∧bg 19 C=true
  ·rw [if_pos h]
   rw [rep_lst] at ry
   refine bA (ry) fun a xs hS84 sq rl=> ?_; subst hS84
   cases (show u= .ref a from ru)
   obtain ⟨its,r,p⟩:=I.isLst (j.seq sq.sq)
   refine in_listAt (zX X.K G l C) p (fun w hw=> ?_) ?_
   ·refine bA (mL rl r (by simpa using hw)) fun d z h1 t D=> ?_
    rw [iZ I j h.1 h1 t D]
    exact (pi I j 19 19 d C z x w v X.A.in1 (d6 h.1 h1) h.2 t rx D rv (by show X.A.units+1+19 < cLine; omega)).1
   ·have e1:its.toArray.any (zX X.K G l C)=l.any fun y=>bY y C:=by
     rw [List.any_toArray]
     exact hG rl r fun d z w hm t D=>iZ I j h.1 hm t D
    rw [e1]
    exact ⟨_,rfl,.bl (l.any fun y=>bY y C),G,H,I,rfl,.refl j,rep_bl.mpr rfl⟩
  ·rw [if_neg h] at ok; exact ok.elim
 | tup l=>
  dsimp only at ok ⊢
  by_cases h:plL 19 l=true∧bg 19 C=true
  ·rw [if_pos h]
   rw [rep_tup] at ry
   refine bA (ry) fun a xs hS85 sq rl=> ?_; subst hS85
   cases (show u= .ref a from ru)
   obtain ⟨its,r,p⟩:=I.isTup (j.seqT sq.sq)
   refine in_tupleAt (zX X.K G l C) p (fun w hw=> ?_) ?_
   ·refine bA (mL rl r (by simpa using hw)) fun d z h1 t D=> ?_
    rw [iZ I j h.1 h1 t D]
    exact (pi I j 19 19 d C z x w v X.A.in1 (d6 h.1 h1) h.2 t rx D rv (by show X.A.units+1+19 < cLine; omega)).1
   ·have e1:its.toArray.any (zX X.K G l C)=l.any fun y=>bY y C:=by
     rw [List.any_toArray]
     exact hG rl r fun d z w hm t D=>iZ I j h.1 hm t D
    rw [e1]
    exact ⟨_,rfl,.bl (l.any fun y=>bY y C),G,H,I,rfl,.refl j,rep_bl.mpr rfl⟩
  ·rw [if_neg h] at ok; exact ok.elim
 | _=>exact ok.elim
theorem se (hu:X.A.units+64 < cLine):DOp X E (compareOp .NotIn) (uc true):=by
 intro pins s σ G H x y C dy v u I j rx ry rv ru ok
 unfold uc at ok ⊢
 cases dy with
 | lst l=>
  dsimp only at ok ⊢
  by_cases h:plL 19 l=true∧bg 19 C=true
  ·rw [if_pos h]
   rw [rep_lst] at ry
   refine bA (ry) fun a xs hS86 sq rl=> ?_; subst hS86
   cases (show u= .ref a from ru)
   obtain ⟨its,r,p⟩:=I.isLst (j.seq sq.sq)
   refine notIn_listAt (zX X.K G l C) p (fun w hw=> ?_) ?_
   ·refine bA (mL rl r (by simpa using hw)) fun d z h1 t D=> ?_
    rw [iZ I j h.1 h1 t D]
    exact (pi I j 19 19 d C z x w v X.A.in1 (d6 h.1 h1) h.2 t rx D rv (by show X.A.units+1+19 < cLine; omega)).1
   ·have e1:its.toArray.any (zX X.K G l C)=l.any fun y=>bY y C:=by
     rw [List.any_toArray]
     exact hG rl r fun d z w hm t D=>iZ I j h.1 hm t D
    rw [e1]
    exact ⟨_,rfl,.bl (!(l.any fun y=>bY y C)),G,H,I,rfl,.refl j,rep_bl.mpr rfl⟩
  ·rw [if_neg h] at ok; exact ok.elim
 | tup l=>
  dsimp only at ok ⊢
  by_cases h:plL 19 l=true∧bg 19 C=true
  ·rw [if_pos h]
   rw [rep_tup] at ry
   refine bA (ry) fun a xs hS87 sq rl=> ?_; subst hS87
   cases (show u= .ref a from ru)
   obtain ⟨its,r,p⟩:=I.isTup (j.seqT sq.sq)
   refine notIn_tupleAt (zX X.K G l C) p (fun w hw=> ?_) ?_
   ·refine bA (mL rl r (by simpa using hw)) fun d z h1 t D=> ?_
    rw [iZ I j h.1 h1 t D]
    exact (pi I j 19 19 d C z x w v X.A.in1 (d6 h.1 h1) h.2 t rx D rv (by show X.A.units+1+19 < cLine; omega)).1
   ·have e1:its.toArray.any (zX X.K G l C)=l.any fun y=>bY y C:=by
     rw [List.any_toArray]
     exact hG rl r fun d z w hm t D=>iZ I j h.1 hm t D
    rw [e1]
    exact ⟨_,rfl,.bl (!(l.any fun y=>bY y C)),G,H,I,rfl,.refl j,rep_bl.mpr rfl⟩
  ·rw [if_neg h] at ok; exact ok.elim
 | _=>exact ok.elim
end
end L2
namespace L2
open PySem PySem.Spec PyProof.Rows
noncomputable def z_ (K:W.Frag)(J:It)(ds:List D)(G:Hp):Prop:=∀ (G2 H2:Hp),Same G G2→Same G2 H2→∀ (i:Nat),
 (∀ d,ds[i]?=some d→J.go i H2∧∀ x H',J.yld i H2 x H'→∃ G',Ext G2 H2 G' H'∧Rep K G' d x)∧(ds.length≤i→J.stop i H2)
inductive tDI (K:W.Frag)(E:XK)(fi:DS→Res (List D))(σ:St)(H:Hp)(R:It→Hp→Prop):Prop
 | mk (G:Hp) (ρ:DS) (s:Same G H) (r:Ro K G σ ρ) (o:OkR E H (fi ρ)) (k:∀ ds,fi ρ= .ok ds→∀ J G' H',Ext G H G' H'→z_ K J ds G'→R J H')
section
variable{X:Cx}{E:XK}{tg:Expr}
noncomputable def BX:D→Res (List D)
 | .lst l=> .ok l
 | _=> .bad
noncomputable def EY:D→Res (List D)
 | .tup l=> .ok l
 | _=> .bad
theorem zM {K:W.Frag}{G:Hp}{a:Addr}{xs:List V}{ds:List D}(sq:gu K G a xs)(rl:RepL K G ds xs):z_ K (Hg K a) ds G:=by
 intro G2 H2 g1 g2 i
 have sq2:gu K H2 a xs:=g2.seq (g1.seq sq)
 refine ⟨fun d hd=> ?_,fun hl=>⟨xs,sq2,by rw [← rl.length]; exact hl⟩⟩
 obtain ⟨v,hv,rv⟩:=rl.get hd
 refine ⟨(mi xs v sq2 hv),fun y H' hZ122=> ?_⟩
 obtain ⟨e,h⟩:=hZ122
 subst e
 have q:=h xs sq2
 rw [hv] at q; cases q
 exact ⟨G2,.refl g2,rv.mono g1⟩
theorem B_ {K:W.Frag}{G:Hp}{a:Addr}{xs:List V}{ds:List D}(sq:mE K G a xs)(rl:RepL K G ds xs):z_ K (Hh K a) ds G:=by
 intro G2 H2 g1 g2 i
 have sq2:mE K H2 a xs:=g2.seqT (g1.seqT sq)
 refine ⟨fun d hd=> ?_,fun hl=>⟨xs,sq2,by rw [← rl.length]; exact hl⟩⟩
 obtain ⟨v,hv,rv⟩:=rl.get hd
 refine ⟨(mi xs v sq2 hv),fun y H' hZ123=> ?_⟩
 obtain ⟨e,h⟩:=hZ123
 subst e
 have q:=h xs sq2
 rw [hv] at q; cases q
 exact ⟨G2,.refl g2,rv.mono g1⟩
noncomputable def oa (lo:Int)(n:Nat):List D:=(List.range n).map fun (i:Nat)=>D.int (lo+(i:Int))
theorem lN {K:W.Frag}{G:Hp}(lo:Int)(n:Nat):z_ K (Fo lo n) (oa lo n) G:=by
 intro G2 H2 g1 g2 i
 refine ⟨fun d hd=> ?_,fun hl=>(show n≤i by simpa [oa] using hl)⟩
 unfold oa at hd
 rw [List.getElem?_map] at hd
 cases e:(List.range n)[i]? with
 | none=>rw [e] at hd; cases hd
 | some j=>
  rw [e] at hd
  obtain ⟨hj,rfl⟩:=d7 e
  cases hd
  have hi:i < n:=by simpa using hj
  refine ⟨hi,fun y H' hZ124=> ?_⟩
  obtain ⟨e1,e2⟩:=hZ124
  subst e1 e2
  refine ⟨G2,.refl g2,rep_int.mpr ?_⟩
  rw [List.getElem_range]
theorem bI {e:Expr}{f:DS→Res D}(h:PD X E e f):PI X tg e (tDI X.K E (fun ρ=>(f ρ).bind BX)):=by
 intro pins s σ H R I hZ5
 obtain ⟨G,ρ,hs,hro,ho,k⟩:=hZ5
 refine BF (fL h) pins s σ H R I ⟨G,ρ,hs,hro,ho.fst,fun d e v G1 H1 x1 p1=> ?_⟩
 have kk:=ho.snd e x1.hh
 cases d with
 | lst l=>
  rw [rep_lst] at p1
  refine bA (p1) fun a xs hS88 sq rl=> ?_; subst hS88
  exact (iI a rfl ⟨xs,x1.gh.seq sq.sq⟩ (k l (au e rfl) (Hg X.K a) G1 H1 x1 (zM sq.sq rl)))
 | _=>exact kk.elim
theorem BD {e:Expr}{f:DS→Res D}(h:PD X E e f):PI X tg e (tDI X.K E (fun ρ=>(f ρ).bind EY)):=by
 intro pins s σ H R I hZ6
 obtain ⟨G,ρ,hs,hro,ho,k⟩:=hZ6
 refine EH (fL h) pins s σ H R I ⟨G,ρ,hs,hro,ho.fst,fun d e v G1 H1 x1 p1=> ?_⟩
 have kk:=ho.snd e x1.hh
 cases d with
 | tup l=>
  rw [rep_tup] at p1
  refine bA (p1) fun a xs hS89 sq rl=> ?_; subst hS89
  exact (iI a rfl ⟨xs,x1.gh.seqT sq⟩ (k l (au e rfl) (Hh X.K a) G1 H1 x1 (B_ sq rl)))
 | _=>exact kk.elim
noncomputable def cS (i:Int):Bool:=decide (-(2 ^ 62)≤i) && decide (i < 2 ^ 62)
noncomputable def oS:List D→Res (List D)
 | [.int j]=>if cS j=true then .ok (oa 0 j.toNat) else .bad
 | _=> .bad
noncomputable def zB:List D→Res (List D)
 | [.int i,.int j]=>if (cS i && cS j)=true then .ok (oa i (j - i).toNat) else .bad
 | _=> .bad
theorem jW {a:Expr}{p pos:Pos}{fs:DS→Res (List D)}(hg:Gl X "range")(hm:X.mg "range" =none)(ha:mB X E [a] fs)(hs:starEach [a] X.env=[(false,eval a X.env)]:=by rfl):PI X tg (.Call (.Name "range" p) [a] [] pos) (tDI X.K E (fun ρ=>(fs ρ).bind oS)):=by
 intro pins s σ H R I hZ7
 obtain ⟨G,ρ,hsm,hro,ho,k⟩:=hZ7
 refine pS hg hm (jz ha) hs pins s σ H R I ⟨G,ρ,hsm,hro,ho.fst,fun ds e vs G1 H1 x1 p1=> ?_⟩
 have kk:=ho.snd e x1.hh
 unfold oS at kk
 split at kk
 ·rename_i j
  refine bA (p1.inv) fun v r hS90 rv r0=> ?_; subst hS90
  rw [r0.inv0]
  rw [rep_int] at rv; subst rv
  by_cases hj:cS j=true
  ·have hj':=hj
   unfold cS at hj'
   rw [Bool.and_eq_true] at hj'
   exact (DR j rfl (of_decide_eq_true hj'.1) (of_decide_eq_true hj'.2) (k _ (au e (if_pos hj)) _ G1 H1 x1 (lN 0 j.toNat)))
  ·rw [if_neg hj] at kk; exact kk.elim
 ·exact kk.elim
theorem nW {a b:Expr}{p pos:Pos}{fs:DS→Res (List D)}(hg:Gl X "range")(hm:X.mg "range" =none)(ha:mB X E [a,b] fs)(hs:starEach [a,b] X.env=[(false,eval a X.env),(false,eval b X.env)]:=by rfl)(hs2:starEach [b] X.env=[(false,eval b X.env)]:=by rfl):PI X tg (.Call (.Name "range" p) [a,b] [] pos) (tDI X.K E (fun ρ=>(fs ρ).bind zB)):=by
 intro pins s σ H R I hZ8
 obtain ⟨G,ρ,hsm,hro,ho,k⟩:=hZ8
 refine xA hg hm (jz ha) hs hs2 pins s σ H R I ⟨G,ρ,hsm,hro,ho.fst,fun ds e vs G1 H1 x1 p1=> ?_⟩
 have kk:=ho.snd e x1.hh
 unfold zB at kk
 split at kk
 ·rename_i i j
  refine bA (p1.inv) fun v r hS91 rv r0=> ?_; subst hS91
  refine bA (r0.inv) fun v2 r2 hS92 rv2 r02=> ?_; subst hS92
  rw [r02.inv0]
  rw [rep_int] at rv rv2; subst rv rv2
  by_cases hj:(cS i && cS j)=true
  ·have hj':=hj
   unfold cS at hj'
   rw [Bool.and_eq_true,Bool.and_eq_true,Bool.and_eq_true] at hj'
   exact (dJ i j rfl (mj (of_decide_eq_true hj'.1.1) (of_decide_eq_true hj'.1.2) (of_decide_eq_true hj'.2.1) (of_decide_eq_true hj'.2.2)) (k _ (au e (if_pos hj)) _ G1 H1 x1 (lN i (j - i).toNat)))
  ·rw [if_neg hj] at kk; exact kk.elim
 ·exact kk.elim
noncomputable def bE (t:D→Res Bool)(f:D→Res D):List D→Res (List D)
 | []=> .ok []
 | d :: ds=>match t d with
  | .ok true=>(match f d with
   | .ok e=>(bE t f ds).bind fun es=> .ok (e :: es)
   | _=> .bad)
  | .ok false=>bE t f ds
  | _=> .bad
theorem lm {t:D→Res Bool}{f:D→Res D}:∀ {as bs es:List D},bE t f (as ++ bs)= .ok es→∃ e1 e2,bE t f as= .ok e1∧bE t f bs= .ok e2∧es=e1 ++ e2
 | [],bs,es,h=>(dJ ([]) es rfl h rfl)
 | a :: as,bs,es,h=>by
  rw [List.cons_append] at h
  unfold bE at h
  cases ht:t a with
  | bad=>rw [ht] at h; cases h
  | exc c=>rw [ht] at h; cases h
  | ok b=>
   rw [ht] at h
   cases b with
   | false=>
    refine bA (lm h) fun e1 e2 h1 h2 h3=> ?_
    exact (dJ e1 e2 (by unfold bE; rw [ht]; exact h1) h2 h3)
   | true=>
    cases hf:f a with
    | bad=>rw [hf] at h; cases h
    | exc c=>rw [hf] at h; cases h
    | ok e=>
     rw [hf] at h
     dsimp only at h
     cases hr:bE t f (as ++ bs) with
     | bad=>rw [hr] at h; cases h
     | exc c=>rw [hr] at h; cases h
     | ok es'=>
      rw [hr] at h
      have h':Res.ok (e :: es')=Res.ok es:=h
      cases h'
      refine bA (lm hr) fun e1 e2 h1 h2 h3=> ?_
      subst h3
      exact (dJ (e :: e1) e2 (by unfold bE; rw [ht,hf]; dsimp only; rw [h1]; rfl) h2 rfl)
theorem lr {t:D→Res Bool}{f:D→Res D}:∀ {as es:List D},bE t f as= .ok es→es.length≤as.length
 | [],es,h=>by unfold bE at h; cases h; exact Nat.le_refl _
 | a :: as,es,h=>by
  unfold bE at h
  cases ht:t a with
  | bad=>rw [ht] at h; cases h
  | exc c=>rw [ht] at h; cases h
  | ok b=>
   rw [ht] at h
   cases b with
   | false=>exact Nat.le_succ_of_le (lr h)
   | true=>
    cases hf:f a with
    | bad=>rw [hf] at h; cases h
    | exc c=>rw [hf] at h; cases h
    | ok e=>
     rw [hf] at h
     dsimp only at h
     cases hr:bE t f as with
     | bad=>rw [hr] at h; cases h
     | exc c=>rw [hr] at h; cases h
     | ok es'=>
      rw [hr] at h
      have h':Res.ok (e :: es')=Res.ok es:=h
      cases h'
      have:=lr hr
      rw [List.length_cons,List.length_cons]; omega
noncomputable def dN (caps:List (Option Nat))(ρ:DS):DS:=caps.map fun o=>o.bind fun k=>(ρ[k]?).join
theorem Ah {K:W.Frag}{G:Hp}{σ:St}{ρ:DS}{caps:List (Option Nat)}(h:Ro K G σ ρ):Ro K G (fj caps σ) (dN caps ρ):=by
 intro i d e
 unfold dN at e
 rw [List.getElem?_map] at e
 unfold fj
 rw [List.getElem?_map]
 cases q:caps[i]? with
 | none=>rw [q] at e; cases e
 | some o=>
  rw [q] at e
  cases o with
  | none=>simp at e
  | some k=>
   simp only [Option.map_some,Option.bind_some,Option.some.injEq] at e ⊢
   cases q2:ρ[k]? with
   | none=>rw [q2] at e; simp at e
   | some o2=>
    rw [q2] at e
    simp at e
    subst e
    obtain ⟨v,hv,rv⟩:=h k d q2
    exact ⟨v,by rw [hv]; rfl,rv⟩
theorem Ro.set {K:W.Frag}{G:Hp}{σ:St}{ρ:DS}{j:Nat}{v:V}{d:D}(h:Ro K G σ ρ)(hj:j < σ.length)(r:Rep K G d v):Ro K G (σ.set j (some v)) (ρ.set j (some d)):=by
 intro i e q
 by_cases hi:i=j
 ·subst hi
  by_cases hl:i < ρ.length
  ·rw [List.getElem?_set_self hl] at q
   cases q
   exact ⟨v,List.getElem?_set_self hj,r⟩
  ·rw [List.getElem?_eq_none (by simpa using hl)] at q
   cases q
 ·rw [List.getElem?_set_ne (Ne.symm hi)] at q ⊢
  exact h i e q
noncomputable abbrev qf:XK:=fun _ _ _=>False
noncomputable def wy (X:Cx)(E:XK)(ifs:List Expr)(f:DS→Res Bool):Prop:=Fk X ifs (tDT X.K E f)
theorem bo:wy X E [] (fun _=> .ok true):=fun pins s σ H Q I hZ125=>(by obtain ⟨G,ρ,hs,hr,ho,k⟩:=hZ125; exact BG pins s σ H Q I (k true rfl G H (.refl hs)))
theorem nV {c:Expr}{f:DS→Res Bool}(h:ub X E c f):wy X E [c] f:=BH (HP h)
end
section
variable{X:Cx}{E:XK}
noncomputable def allInts:List D→Option (List Int)
 | []=>some []
 | .int i :: ds=>(allInts ds).map (i :: ·)
 | _=>none
theorem eX:∀ {ds:List D} {ns:List Int},allInts ds=some ns→ds=ns.map D.int
 | [],ns,h=>by unfold allInts at h; cases h; rfl
 | d :: ds,ns,h=>by
  cases d with
  | int i=>
   unfold allInts at h
   cases q:allInts ds with
   | none=>rw [q] at h; cases h
   | some ms=>rw [q] at h; cases h; rw [eX q]; rfl
  | _=>unfold allInts at h; cases h
theorem cV:∀ (ns:List Int),allInts (ns.map D.int)=some ns
 | []=>rfl
 | n :: ns=>by show (allInts (ns.map D.int)).map (n :: ·)=_; rw [cV ns]; rfl
noncomputable def lC:List Int→Int
 | []=>0
 | [a]=>a
 | a :: as=>min a (lC as)
noncomputable def i7:List Int→Int
 | []=>0
 | [a]=>a
 | a :: as=>max a (i7 as)
theorem lD:∀ {ns:List Int},ns≠[]→lC ns∈ns∧∀ a∈ns,lC ns≤a
 | [],h=>absurd rfl h
 | [a],_=>⟨List.mem_singleton.mpr rfl,fun b hb=>by rw [List.mem_singleton.mp hb]; exact Int.le_refl _⟩
 | a :: b :: r,_=>by
  obtain ⟨h1,h2⟩:=lD (ns:=b :: r) (by simp)
  show min a (lC (b :: r))∈_∧_
  refine ⟨?_,fun c hc=> ?_⟩
  ·by_cases h:a≤lC (b :: r)
   ·rw [Int.min_eq_left h]; exact List.mem_cons_self
   ·rw [Int.min_eq_right (by omega)]; exact cN h1
  ·show min a (lC (b :: r))≤c
   rcases List.mem_cons.mp hc with rfl | hc
   ·exact Int.min_le_left _ _
   ·exact Int.le_trans (Int.min_le_right _ _) (h2 c hc)
theorem gF:∀ {ns:List Int},ns≠[]→i7 ns∈ns∧∀ a∈ns,a≤i7 ns
 | [],h=>absurd rfl h
 | [a],_=>⟨List.mem_singleton.mpr rfl,fun b hb=>by rw [List.mem_singleton.mp hb]; exact Int.le_refl _⟩
 | a :: b :: r,_=>by
  obtain ⟨h1,h2⟩:=gF (ns:=b :: r) (by simp)
  show max a (i7 (b :: r))∈_∧_
  refine ⟨?_,fun c hc=> ?_⟩
  ·by_cases h:i7 (b :: r)≤a
   ·rw [Int.max_eq_left h]; exact List.mem_cons_self
   ·rw [Int.max_eq_right (by omega)]; exact cN h1
  ·show c≤max a (i7 (b :: r))
   rcases List.mem_cons.mp hc with rfl | hc
   ·exact Int.le_max_left _ _
   ·exact Int.le_trans (h2 c hc) (Int.le_max_right _ _)
noncomputable def oQ:List D→Res D
 | [.lst l]=>match allInts l with | some (n :: ns)=> .ok (.int (lC (n :: ns))) | _=> .bad
 | _=> .bad
noncomputable def mn:List D→Res D
 | [.lst l]=>match allInts l with | some (n :: ns)=> .ok (.int (i7 (n :: ns))) | _=> .bad
 | _=> .bad
theorem wG (hc:X.calm=true):dI X (.builtin "min") (fun xs H Q=>∃ p ns,xs=[.ref p]∧gu X.K H p (ns.map V.int)∧ns≠[]∧Q (.int (lC ns)) H):=by
 intro pins s σ H xs us Q I r h
 refine oC (h) fun p ns hS93 sq hne q=> ?_; subst hS93
 obtain ⟨u,rfl,ru⟩:=je r
 cases (show u= .ref p from ru)
 refine cy (I.list sq) fun its rv pl _=> ?_
 have hi:=fu rv
 obtain ⟨ys,e⟩:=hi.allInts.items
 have E:ns=ys.toList.map (·.1):=by rw [← hi.numsOf,← nums_intItems,← e]
 have hsz:0 < ys.size:=by
  have h3:0 < ns.length:=List.length_pos_iff.mpr hne
  rw [E,List.length_map,Array.length_toList] at h3; exact h3
 have hl:=pl.isList
 rw [e] at hl
 refine min_intList (I.ok.hd hc) hl hsz fun v h' tk hv hk=> ?_
 obtain ⟨t,rfl⟩:=intItems_at hv
 obtain ⟨h1,h2⟩:=argBest_lt (numAt ys) (ys.size - 1)
 have hm:numAt ys (argBest (fun i j=>decide (numAt ys i < numAt ys j)) (ys.size - 1))=lC ns:=by
  obtain ⟨m1,m2⟩:=lD hne
  refine Int.le_antisymm ?_ (m2 _ ?_)
  ·rw [E] at m1
   obtain ⟨j,hj,ej⟩:=mem_getD m1
   rw [List.length_map,Array.length_toList] at hj
   rw [← E] at ej
   rw [← ej,E,← numAt_eq]; exact h2 j (by omega)
  ·rw [E,numAt_eq]; exact getD_mem (by rw [List.length_map,Array.length_toList]; omega)
 rw [hm]
 exact ⟨.int (lC ns),H,I.kept hk,⟨t,rfl⟩,q⟩
theorem wF (hc:X.calm=true):dI X (.builtin "max") (fun xs H Q=>∃ p ns,xs=[.ref p]∧gu X.K H p (ns.map V.int)∧ns≠[]∧Q (.int (i7 ns)) H):=by
 intro pins s σ H xs us Q I r h
 refine oC (h) fun p ns hS94 sq hne q=> ?_; subst hS94
 obtain ⟨u,rfl,ru⟩:=je r
 cases (show u= .ref p from ru)
 refine cy (I.list sq) fun its rv pl _=> ?_
 have hi:=fu rv
 obtain ⟨ys,e⟩:=hi.allInts.items
 have E:ns=ys.toList.map (·.1):=by rw [← hi.numsOf,← nums_intItems,← e]
 have hsz:0 < ys.size:=by
  have h3:0 < ns.length:=List.length_pos_iff.mpr hne
  rw [E,List.length_map,Array.length_toList] at h3; exact h3
 have hl:=pl.isList
 rw [e] at hl
 refine max_intList (I.ok.hd hc) hl hsz fun v h' tk hv hk=> ?_
 obtain ⟨t,rfl⟩:=intItems_at hv
 obtain ⟨h1,h2⟩:=argBest_gt (numAt ys) (ys.size - 1)
 have hm:numAt ys (argBest (fun i j=>decide (numAt ys i > numAt ys j)) (ys.size - 1))=i7 ns:=by
  obtain ⟨m1,m2⟩:=gF hne
  refine Int.le_antisymm (m2 _ ?_) ?_
  ·rw [E,numAt_eq]; exact getD_mem (by rw [List.length_map,Array.length_toList]; omega)
  ·rw [E] at m1
   obtain ⟨j,hj,ej⟩:=mem_getD m1
   rw [List.length_map,Array.length_toList] at hj
   rw [← E] at ej
   rw [← ej,E,← numAt_eq]; exact h2 j (by omega)
 rw [hm]
 exact ⟨.int (i7 ns),H,I.kept hk,⟨t,rfl⟩,q⟩
theorem An {K:W.Frag}:xT K E (fun xs H Q=>∃ p ns,xs=[.ref p]∧gu K H p (ns.map V.int)∧ns≠[]∧Q (.int (lC ns)) H) oQ:=by
 intro G H vs ds Q hs rl ok k
 unfold oQ at ok k
 split at ok
 ·rename_i l
  obtain ⟨v,r,rfl,rx,r0⟩:=rl.inv
  rw [r0.inv0]
  rw [rep_lst] at rx
  obtain ⟨p,xs,rfl,sq,rx⟩:=rx
  dsimp only at k
  cases q:allInts l with
  | none=>rw [q] at ok; exact ok.elim
  | some ns=>
   cases ns with
   | nil=>rw [q] at ok; exact ok.elim
   | cons n ns=>
    rw [q] at k
    have e:=eX q
    subst e
    have ex:=rx.ints
    subst ex
    exact ⟨p,n :: ns,rfl,hs.seq sq.sq,by simp,k _ _ G H rfl (.refl hs) (rep_int.mpr rfl)⟩
 ·exact ok.elim
theorem Am {K:W.Frag}:xT K E (fun xs H Q=>∃ p ns,xs=[.ref p]∧gu K H p (ns.map V.int)∧ns≠[]∧Q (.int (i7 ns)) H) mn:=by
 intro G H vs ds Q hs rl ok k
 unfold mn at ok k
 split at ok
 ·rename_i l
  obtain ⟨v,r,rfl,rx,r0⟩:=rl.inv
  rw [r0.inv0]
  rw [rep_lst] at rx
  obtain ⟨p,xs,rfl,sq,rx⟩:=rx
  dsimp only at k
  cases q:allInts l with
  | none=>rw [q] at ok; exact ok.elim
  | some ns=>
   cases ns with
   | nil=>rw [q] at ok; exact ok.elim
   | cons n ns=>
    rw [q] at k
    have e:=eX q
    subst e
    have ex:=rx.ints
    subst ex
    exact ⟨p,n :: ns,rfl,hs.seq sq.sq,by simp,k _ _ G H rfl (.refl hs) (rep_int.mpr rfl)⟩
 ·exact ok.elim
noncomputable def rh (hi:Int)(n:Nat):List D:=(List.range n).map fun (i:Nat)=>D.int (hi - (i:Int))
theorem oO {a b c:Int}{t u v:Tok}{n:Nat}{r:Addr}{pins:List (Addr×Obj)}{σ:St}{H:Hp}{s:Shared}{Q:VK}(hc:X.calm=true)(I:Inv X pins σ H s)(hr:IsRange s.heap r a b c t u v)(hsm:Builtin.Range.small a b c=true)(hn:Builtin.Range.rangeSize a b c=n)(hz:n≤100000)
  (q:∀ p,H p=none→Q (.ref p) (br H p (.lst ((List.range n).map fun (i:Nat)=>V.int (a+(i:Int) * c))))):wpAny (model X.prog X.w) X.A (call (.type "list") [.ref r]) (EP X pins σ Q) X.xe s:=by
 refine call_list_range (I.ok.hd hc) hr hsm hn (Nat.le_trans hz (by decide)) fun h' tk acc c' hk hD hI=> ?_
 obtain ⟨h1,h2⟩:=hI
 have hv:Vals ((List.range n).map fun (i:Nat)=>V.int (a+(i:Int) * c)) acc.toList:=by
  have aux:∀ (m:Nat) (f:Nat→V) (l:List Value),l.length=m→(∀ j u,l[j]?=some u→RelV (f j) u)→Vals ((List.range m).map f) l:=by
   intro m
   induction m with
   | zero=>
    intro f l hl _
    cases l with
    | nil=>exact .nil
    | cons x xs=>simp at hl
   | succ m ih=>
    intro f l hl h
    cases l with
    | nil=>simp at hl
    | cons x xs=>
     rw [List.range_succ_eq_map,List.map_cons,List.map_map]
     exact .cons (h 0 x rfl) (ih (f ∘ Nat.succ) xs (by simpa using hl) fun j u e=>h (j+1) u (by simpa using e))
  refine aux n _ acc.toList (by simpa using h1) fun j u e=> ?_
  obtain ⟨t',rfl⟩:=h2 j u (by simpa using e)
  exact ⟨t',rfl⟩
 refine ⟨.ref s.heap.objs.size,_,I.laid (o:= .lst ((List.range n).map fun (i:Nat)=>V.int (a+(i:Int) * c))) hk (Nat.le_refl _) (nD ?_ acc.toList c' hv ?_),rfl,q _ (I.hok.fresh (Nat.le_refl _))⟩
 ·rw [List.length_map,List.length_range]
  exact Nat.le_trans hz (by decide)
 ·rw [hD]
theorem iX {i:Int}(h1: -(2 ^ 62)≤i)(h2:i≤2 ^ 62):Builtin.Range.rangeFitsLong i=true:=by
 unfold Builtin.Range.rangeFitsLong
 simp only [Bool.and_eq_true,decide_eq_true_eq]
 omega
theorem pV {a b:Int}:Builtin.Range.rangeSize a b (-1)=((a - b).toNat:Int):=by
 unfold Builtin.Range.rangeSize
 rw [if_neg (by decide)]
 split
 ·have:(-(-1:Int))=1:=by decide
  rw [this,Int.ediv_one]; omega
 ·omega
theorem pW {a b c:Int}(h1: -(2 ^ 60)≤a)(h2:a < 2 ^ 60)(h3: -(2 ^ 60)≤b)(h4:b < 2 ^ 60)(hc:c=1∨c= -1):Builtin.Range.small a b c=true:=by
 rcases hc with rfl | rfl
 ·exact small_one (by omega) (by omega) (by omega) (by omega)
 ·unfold Builtin.Range.small
  rw [pV,iX (i:=a) (by omega) (by omega),iX (i:=b) (by omega) (by omega),iX (i:= -1) (by decide) (by decide),iX (i:=((a - b).toNat:Int)) (by omega) (by omega)]
  rw [if_neg (by decide),iX (i:=b+(-1+1)) (by omega) (by omega)]
  simp
noncomputable def ue (p:Addr)(a b c:Int):HO:= .ext fun h=>∃ t u v,IsRange h p a b c t u v
theorem Inv.rng {pins:List (Addr×Obj)}{σ:St}{H:Hp}{s:Shared}{a b c:Int}{t u v:Tok}{tk:Nat}(I:Inv X pins σ H s):Inv X pins σ (br H s.heap.objs.size (ue s.heap.objs.size a b c)) { s with heap:=s.heap.push { cls:= .type "range",data:= .fields #[.int a t,.int b u,.int c v] },toks:=tk }:=
 I.laid (fun b o e=>Heap.get?_push_of_some _ e) (Nat.le_refl _) ⟨⟨t,u,v,Heap.get?_push_size _ rfl⟩,⟨_,Heap.get?_push_size _ rfl⟩,fun h1 h2 ⟨t,u,v,e⟩ k=>⟨t,u,v,k _ e⟩⟩
theorem rY:dI X (.type "range") (fun xs H Q=>∃ i j,xs=[.int i,.int j]∧∀ p,H p=none→Q (.ref p) (br H p (ue p i j 1))):=by
 intro pins s σ H xs us Q I r h
 refine mf (h) fun i j hS95 q=> ?_; subst hS95
 refine bA (CK r) fun u1 u2 hS96 hS97 hS98=> ?_; subst hS96; obtain ⟨t1,rfl⟩:=hS97; obtain ⟨t2,rfl⟩:=hS98
 exact call_range_2 ⟨.ref s.heap.objs.size,_,I.rng,rfl,q _ (I.hok.fresh (Nat.le_refl _))⟩
theorem G_ {x y z:V}{us:List Value}(r:Vals [x,y,z] us):∃ u v w,us=[u,v,w]∧RelV x u∧RelV y v∧RelV z w:=by
 cases r with
 | cons a b=>cases b with
  | cons c d=>cases d with
   | cons e f=>cases f; exact (jT _ _ _ rfl a c e)
theorem rZ:dI X (.type "range") (fun xs H Q=>∃ i j,xs=[.int i,.int j,.int (-1)]∧∀ p,H p=none→Q (.ref p) (br H p (ue p i j (-1)))):=by
 intro pins s σ H xs us Q I r h
 refine mf (h) fun i j hS99 q=> ?_; subst hS99
 refine jA (G_ r) fun u1 u2 u3 hS100 hS101 hS102 hS103=> ?_; subst hS100; obtain ⟨t1,rfl⟩:=hS101; obtain ⟨t2,rfl⟩:=hS102; obtain ⟨t3,rfl⟩:=hS103
 exact call_range_3 (by decide) ⟨.ref s.heap.objs.size,_,I.rng (tk:=s.toks),rfl,q _ (I.hok.fresh (Nat.le_refl _))⟩ (.inl (PyProof.noPylong_small (by decide)))
theorem j7 (hc:X.calm=true):dI X (.type "list") (fun xs H Q=>∃ p a b c n,xs=[.ref p]∧H p=some (ue p a b c)∧Builtin.Range.small a b c=true∧Builtin.Range.rangeSize a b c=((n:Nat):Int)∧n≤100000∧∀ l,H l=none→Q (.ref l) (br H l (.lst ((List.range n).map fun (i:Nat)=>V.int (a+(i:Int) * c))))):=by
 intro pins s σ H xs us Q I r h
 refine Fh (h) fun p a b c n hS104 hp hsm hn hz q=> ?_; subst hS104
 obtain ⟨u,rfl,ru⟩:=je r
 cases (show u= .ref p from ru)
 obtain ⟨⟨t,u,v,e⟩,_,_⟩:=(show ObjOk X.prog X.w H s.heap p (ue p a b c) from I.hok p _ hp)
 exact oO hc I e hsm hn hz q
noncomputable def iF (i:Int):Bool:=decide (-(2 ^ 60)≤i) && decide (i < 2 ^ 60)
noncomputable def pJ:List D→Res D
 | [.int i,.int j]=>if (iF i && iF j && aX (j - i).toNat)=true then .ok (.lst (oa i (j - i).toNat)) else .bad
 | _=> .bad
noncomputable def pK:List D→Res D
 | [.int i,.int j,.int k]=>if (iF i && iF j && aX (i - j).toNat && decide (k= -1))=true then .ok (.lst (rh i (i - j).toNat)) else .bad
 | _=> .bad
theorem n_ {K:W.Frag}{G:Hp}{f:Nat→D}{g:Nat→V}(h:∀ i,Rep K G (f i) (g i)):∀ (l:List Nat),RepL K G (l.map f) (l.map g)
 | []=> .nil
 | a :: r=> .cons (h a) (n_ h r)
theorem uM {a b:Expr}{p1 p2 pos1 pos2:Pos}{fs:DS→Res (List D)}(hc:X.calm=true)(hgl:Gl X "list")(hml:X.mg "list" =none)(hg:Gl X "range")(hm:X.mg "range" =none)(ha:mB X E [a,b] fs)
  (hs:starEach [a,b] X.env=(false,eval a X.env) :: starEach [b] X.env:=by rfl) (hpl:(backTo pos2 (starEach [b] X.env)).any (·.1)=false:=by rfl)
  (hs3:starEach [.Call (.Name "range" p2) [a,b] [] pos2] X.env=(false,eval (.Call (.Name "range" p2) [a,b] [] pos2) X.env) :: starEach [] X.env:=by rfl) :
  PD X E (.Call (.Name "list" p1) [.Call (.Name "range" p2) [a,b] [] pos2] [] pos1) (bD fs pJ):=by
 intro pins s σ G H ρ I hsm hro ho
 have he:=gK (pos:=pos1) (p:=p1) (j7 hc) hgl hml PyProof.Rows.boot_list (il (gK (pos:=pos2) (p:=p2) rY hg hm boot_range (jz ha) (by decide) (by decide) hs hpl) lG hs3) (by decide) (by decide) hs3 rfl
 refine aT (he pins s σ H (fun v H'=>∃ d G',bD fs pJ ρ= .ok d∧Ext G H G' H'∧Rep X.K G' d v) I ?_) fun u s' hZ126=>(by obtain ⟨v,H',I',r,d,G',e,xx,rp⟩:=hZ126; exact ⟨d,e,v,G',H',I',r,xx,rp⟩)
 refine ⟨G,ρ,hsm,hro,ho.fst,fun ds e vs G1 H1 x1 p1=> ?_⟩
 have kk:=ho.snd e x1.hh
 unfold pJ at kk
 split at kk
 ·rename_i i j
  refine bA (p1.inv) fun v r hS105 rv r0=> ?_; subst hS105
  refine bA (r0.inv) fun v2 r2 hS106 rv2 r02=> ?_; subst hS106
  rw [r02.inv0]
  rw [rep_int] at rv rv2; subst rv rv2
  by_cases hj:(iF i && iF j && aX (j - i).toNat)=true
  ·have hj':=hj
   unfold iF at hj'
   simp only [Bool.and_eq_true,decide_eq_true_eq] at hj'
   obtain ⟨⟨⟨a1,a2⟩,b1,b2⟩,l1⟩:=hj'
   refine (mi i j rfl (fun p hp=>(DT p i j 1 ((j - i).toNat) rfl aw (pW a1 a2 b1 b2 (.inl rfl)) (by rw [rangeSize_one]; split <;> omega) (of_decide_eq_true l1) (fun l hl=> ?_))))
   have x2:=x1.trans (Ext.new x1.gh hp (ue p i j 1))
   have x3:=x2.trans (Ext.new x2.gh hl (.lst ((List.range (j - i).toNat).map fun (k:Nat)=>V.int (i+(k:Int) * 1))))
   refine (dJ _ _ (au e (if_pos hj)) x3 (rep_lst.mpr (dJ l _ rfl (.of aw) (n_ (fun k=>rep_int.mpr (by rw [Int.mul_one])) _))))
  ·rw [if_neg hj] at kk; exact kk.elim
 ·exact kk.elim
theorem uN {a b c:Expr}{p1 p2 pos1 pos2:Pos}{fs:DS→Res (List D)}(hc:X.calm=true)(hgl:Gl X "list")(hml:X.mg "list" =none)(hg:Gl X "range")(hm:X.mg "range" =none)(ha:mB X E [a,b,c] fs)
  (hs:starEach [a,b,c] X.env=(false,eval a X.env) :: starEach [b,c] X.env:=by rfl) (hpl:(backTo pos2 (starEach [b,c] X.env)).any (·.1)=false:=by rfl)
  (hs3:starEach [.Call (.Name "range" p2) [a,b,c] [] pos2] X.env=(false,eval (.Call (.Name "range" p2) [a,b,c] [] pos2) X.env) :: starEach [] X.env:=by rfl) :
  PD X E (.Call (.Name "list" p1) [.Call (.Name "range" p2) [a,b,c] [] pos2] [] pos1) (bD fs pK):=by
 intro pins s σ G H ρ I hsm hro ho
 have he:=gK (pos:=pos1) (p:=p1) (j7 hc) hgl hml PyProof.Rows.boot_list (il (gK (pos:=pos2) (p:=p2) rZ hg hm boot_range (jz ha) (by decide) (by decide) hs hpl) lG hs3) (by decide) (by decide) hs3 rfl
 refine aT (he pins s σ H (fun v H'=>∃ d G',bD fs pK ρ= .ok d∧Ext G H G' H'∧Rep X.K G' d v) I ?_) fun u s' hZ127=>(by obtain ⟨v,H',I',r,d,G',e,xx,rp⟩:=hZ127; exact ⟨d,e,v,G',H',I',r,xx,rp⟩)
 refine ⟨G,ρ,hsm,hro,ho.fst,fun ds e vs G1 H1 x1 p1=> ?_⟩
 have kk:=ho.snd e x1.hh
 unfold pK at kk
 split at kk
 ·rename_i i j k
  refine bA (p1.inv) fun v r hS107 rv r0=> ?_; subst hS107
  refine bA (r0.inv) fun v2 r2 hS108 rv2 r02=> ?_; subst hS108
  refine bA (r02.inv) fun v3 r3 hS109 rv3 r03=> ?_; subst hS109
  rw [r03.inv0]
  rw [rep_int] at rv rv2 rv3; subst rv rv2 rv3
  by_cases hj:(iF i && iF j && aX (i - j).toNat && decide (k= -1))=true
  ·have hj':=hj
   unfold iF at hj'
   simp only [Bool.and_eq_true,decide_eq_true_eq] at hj'
   obtain ⟨⟨⟨⟨a1,a2⟩,b1,b2⟩,l1⟩,rfl⟩:=hj'
   refine ⟨i,j,rfl,fun p hp=>⟨p,i,j,-1,(i - j).toNat,rfl,aw,pW a1 a2 b1 b2 (.inr rfl),pV,of_decide_eq_true l1,fun l hl=> ?_⟩⟩
   have x2:=x1.trans (Ext.new x1.gh hp (ue p i j (-1)))
   have x3:=x2.trans (Ext.new x2.gh hl (.lst ((List.range (i - j).toNat).map fun (k:Nat)=>V.int (i+(k:Int) * (-1)))))
   refine (dJ _ _ (au e (if_pos hj)) x3 (rep_lst.mpr (dJ l _ rfl (.of aw) (n_ (fun k=>rep_int.mpr (by congr 1; omega)) _))))
  ·rw [if_neg hj] at kk; exact kk.elim
 ·exact kk.elim
noncomputable def Aj (l:List D)(lo hi:Option Int):List D:=(l.drop (HT.cB l.length 0 lo)).take (HT.cB l.length l.length hi - HT.cB l.length 0 lo)
theorem vv {K:W.Frag}{G:Hp}{ds:List D}{xs:List V}(h:RepL K G ds xs)(lo hi:Option Int):RepL K G (Aj ds lo hi) (r7 xs lo hi):=by
 unfold Aj r7
 rw [← h.length]
 exact (h.drop _).take _
noncomputable def iD (lo hi:Option Int):D→Res D
 | .lst l=> .ok (.lst (Aj l lo hi))
 | .tup l=>if HT.cB l.length 0 lo=0∧HT.cB l.length l.length hi=l.length then .bad else .ok (.tup (Aj l lo hi))
 | _=> .bad
inductive tPO (K:W.Frag)(E:XK)(f:DS→Res (Option Int))(σ:St)(H:Hp)(Q:Option Int→Hp→Prop):Prop
 | mk (G:Hp) (ρ:DS) (s:Same G H) (r:Ro K G σ ρ) (ok:OkR E H (f ρ)) (k:∀ o,f ρ= .ok o→∀ G' H',Ext G H G' H'→Q o H')
noncomputable def Ft (X:Cx)(E:XK)(e:Option Expr)(f:DS→Res (Option Int)):Prop:=PO X e (tPO X.K E f)
theorem gI:Ft X E none (fun _=> .ok none):=fun pins s σ H Q I hZ128=>(by obtain ⟨G,ρ,hs,hr,ho,k⟩:=hZ128; exact BL pins s σ H Q I (k none rfl G H (.refl hs)))
noncomputable def Hz:D→Res (Option Int)
 | .int i=> .ok (some i)
 | _=> .bad
theorem gJ {e:Expr}{f:DS→Res D}(h:PD X E e f):Ft X E (some e) (fun ρ=>(f ρ).bind Hz):=by
 intro pins s σ H Q I hZ9
 obtain ⟨G,ρ,hs,hr,ho,k⟩:=hZ9
 refine BM (fL h) pins s σ H Q I ⟨G,ρ,hs,hr,ho.fst,fun d e v G1 H1 x1 p1=> ?_⟩
 have kk:=ho.snd e x1.hh
 cases d with
 | int i=>rw [rep_int] at p1; exact ⟨i,p1,k (some i) (au e rfl) G1 H1 x1⟩
 | _=>exact kk.elim
noncomputable def tT (f:DS→Res D)(lo hi:DS→Res (Option Int)):DS→Res D:=fun ρ=>(f ρ).bind fun d=>(lo ρ).bind fun l=>(hi ρ).bind fun u=>iD l u d
theorem gH {e:Expr}{lo hi:Option Expr}{p2 pos:Pos}{f:DS→Res D}{fl fh:DS→Res (Option Int)}(he:PD X E e f)(hl:Ft X E lo fl)(hh:Ft X E hi fh):PD X E (.Subscript e (.Slice lo hi none p2) pos) (tT f fl fh):=by
 intro pins s σ G H ρ I hsm hro ho
 have hp:=zk (pos:=pos) (p2:=p2) (sl_list.or ES) (fL he) hl hh
 refine aT (hp pins s σ H (fun v H'=>∃ d G',tT f fl fh ρ= .ok d∧Ext G H G' H'∧Rep X.K G' d v) I ?_) fun u s' hZ129=>(by obtain ⟨v,H',I',r,d,G',e,xx,rp⟩:=hZ129; exact ⟨d,e,v,G',H',I',r,xx,rp⟩)
 refine ⟨G,ρ,hsm,hro,ho.fst,fun d e v G1 H1 x1 p1=> ?_⟩
 have k1:=ho.snd e x1.hh
 refine ⟨G1,ρ,x1.gh,hro.mono x1.gg,k1.fst,fun l el G2 H2 x2=> ?_⟩
 have k2:=k1.snd el x2.hh
 refine ⟨G2,ρ,x2.gh,(hro.mono x1.gg).mono x2.gg,k2.fst,fun u eu G3 H3 F=> ?_⟩
 have k3:=k2.snd eu F.hh
 have x13:=(x1.trans x2).trans F
 have p3:=p1.mono (x2.gg.trans F.gg)
 cases d with
 | lst ds=>
  rw [rep_lst] at p3
  refine bA (p3) fun a xs hS110 sq rl=> ?_; subst hS110
  exact .inl (dJ a xs rfl (F.gh.seq sq.sq) (fun p hp=>(dJ _ _ (au e (au el (au eu rfl))) (x13.trans (.new F.gh hp _)) (rep_lst.mpr (dJ p _ rfl (.of aw) ((vv rl l u).mono (Ext.new F.gh hp _).gg))))))
 | tup ds=>
  rw [rep_tup] at p3
  refine bA (p3) fun a xs hS111 sq rl=> ?_; subst hS111
  unfold iD at k3
  dsimp only at k3
  by_cases hw:HT.cB ds.length 0 l=0∧HT.cB ds.length ds.length u=ds.length
  ·rw [if_pos hw] at k3; exact k3.elim
  ·exact .inr (lv a xs rfl (F.gh.seqT sq) (by rw [← rl.length]; exact hw) (fun p hp=>(dJ _ _ (au e (au el (au eu (if_neg hw)))) (x13.trans (.new F.gh hp _)) (rep_tup.mpr (dJ p _ rfl (.of aw) ((vv rl l u).mono (Ext.new F.gh hp _).gg))))))
 | _=>exact k3.elim
end
inductive Out where
 | nx (ρ:DS) | rt (d:D) | bk (ρ:DS) | ct (ρ:DS) | exc (c:Addr) | bad
noncomputable def OkO (E:XK)(H:Hp):Out→Prop
 | .exc c=>∀ H',Same H H'→E (.ref c) none H'
 | .bad=>False
 | _=>True
noncomputable def Out.then:Out→(DS→Out)→Out
 | .nx ρ,f=>f ρ
 | o,_=>o
noncomputable def Res.out {α:Type}:Res α→(α→Out)→Out
 | .ok a,f=>f a
 | .exc c,_=> .exc c
 | .bad,_=> .bad
noncomputable def SO (X:Cx)(pins:List (Addr×Obj))(G H:Hp)(o:Out)(fl:Flow)(s':Shared):Prop:=
 match fl with
 | .next=>∃ ρ' σ' G' H',o= .nx ρ'∧Inv X pins σ' H' s'∧Ext G H G' H'∧Ro X.K G' σ' ρ'
 | .brk=>∃ ρ' σ' G' H',o= .bk ρ'∧Inv X pins σ' H' s'∧Ext G H G' H'∧Ro X.K G' σ' ρ'
 | .cont=>∃ ρ' σ' G' H',o= .ct ρ'∧Inv X pins σ' H' s'∧Ext G H G' H'∧Ro X.K G' σ' ρ'
 | .ret u=>∃ d v σ' G' H',o= .rt d∧Inv X pins σ' H' s'∧RelV v u∧Ext G H G' H'∧Rep X.K G' d v
noncomputable def Hw (X:Cx)(E:XK)(st:Stmt)(F:DS→Out):Prop:=
 ∀ (pins:List (Addr×Obj)) (s:Shared) (σ:St) (G H:Hp) (ρ:DS),Inv X pins σ H s→Same G H→Ro X.K G σ ρ→OkO E H (F ρ)→
  wpAny (model X.prog X.w) X.A (exec st X.env) (SO X pins G H (F ρ)) X.xe s
noncomputable def Hx (X:Cx)(E:XK)(sts:List Stmt)(F:DS→Out):Prop:=
 ∀ (pins:List (Addr×Obj)) (s:Shared) (σ:St) (G H:Hp) (ρ:DS),Inv X pins σ H s→Same G H→Ro X.K G σ ρ→OkO E H (F ρ)→
  wpAny (model X.prog X.w) X.A (execs sts X.env) (SO X pins G H (F ρ)) X.xe s
theorem OkO.fst {E:XK}{H:Hp}{o:Out}{f:DS→Out}(h:OkO E H (o.then f)):OkO E H o:=by cases o <;> first | exact h | trivial
theorem OkO.snd {E:XK}{H H1:Hp}{o:Out}{f:DS→Out}{ρ:DS}(h:OkO E H (o.then f))(e:o= .nx ρ)(s:Same H H1):OkO E H1 (f ρ):=by
 subst e
 have h':OkO E H (f ρ):=h
 cases q:f ρ with
 | exc c=>rw [q] at h'; exact fun H' s'=>h' H' (s.trans s')
 | bad=>rw [q] at h'; exact h'
 | nx _=>trivial
 | rt _=>trivial
 | bk _=>trivial
 | ct _=>trivial
theorem OkO.le {E:XK}{H H1:Hp}{o:Out}(h:OkO E H o)(s:Same H H1):OkO E H1 o:=by
 cases o with
 | exc c=>exact fun H' s'=>h H' (s.trans s')
 | bad=>exact h
 | _=>trivial
theorem OkO.res {α:Type}{E:XK}{H:Hp}{x:Res α}{f:α→Out}(h:OkO E H (x.out f)):OkR E H x:=by cases x <;> first | exact h | trivial
theorem OkO.res2 {α:Type}{E:XK}{H H1:Hp}{x:Res α}{f:α→Out}{a:α}(h:OkO E H (x.out f))(e:x= .ok a)(s:Same H H1):OkO E H1 (f a):=by
 subst e
 exact OkO.le (show OkO E H (f a) from h) s
theorem bV {α:Type}{x:Res α}{f:α→Out}{a:α}(e:x= .ok a):x.out f=f a:=by subst e; rfl
section
variable{X:Cx}{E:XK}
noncomputable def ax (F R:DS→Out):DS→Out:=fun ρ=>(F ρ).then R
theorem we {st:Stmt}{F:DS→Out}(h1:Hw X E st F):Hx X E [st] F:=by
 intro pins s σ G H ρ I hs hr ho
 refine wpAny_execs_cons (aT (h1 pins s σ G H ρ I hs hr ho) fun fl s1 q=> ?_)
 cases fl with
 | next=>exact wpAny_execs_nil q
 | brk=>exact q
 | cont=>exact q
 | ret u=>exact q
noncomputable def bJ (f:DS→Res D):DS→Out:=fun ρ=>(f ρ).out .rt
theorem zq {e:Expr}{pos:Pos}{f:DS→Res D}(h:PD X E e f):Hw X E (.Return (some e) pos) (bJ f):=by
 intro pins s σ G H ρ I hs hr ho
 refine aT (uU (pos:=pos) (fL h) pins s σ H { nx:=fun _ _=>False,bk:=fun _ _=>False,ct:=fun _ _=>False,rt:=fun v H'=>∃ d G',f ρ= .ok d∧Ext G H G' H'∧Rep X.K G' d v } I ⟨G,ρ,hs,hr,ho.res,fun d e v G' H' x rp=>(dJ d G' e x rp)⟩) fun fl s1 q=> ?_
 cases fl with
 | next=>obtain ⟨_,_,_,q⟩:=q; exact q.elim
 | brk=>obtain ⟨_,_,_,q⟩:=q; exact q.elim
 | cont=>obtain ⟨_,_,_,q⟩:=q; exact q.elim
 | ret u=>
  obtain ⟨v,σ',H',I',rv,d,G',e,x,rp⟩:=q
  exact ⟨d,v,σ',G',H',bV e,I',rv,x,rp⟩
noncomputable def aQ (i:Nat)(f:DS→Res D):DS→Out:=fun ρ=>(f ρ).out fun d=> .nx (ρ.set i (some d))
noncomputable def ii (fc:DS→Res Bool)(Fa Fb:DS→Out):DS→Out:=fun ρ=>(fc ρ).out fun k=>if k=true then Fa ρ else Fb ρ
noncomputable def EN (C:Addr)(ok:DS→Bool):DS→Out:=fun ρ=>if ok ρ=true then .exc C else .bad
noncomputable def AT (j:Nat)(F:DS→Out):List D→DS→Out
 | [],ρ=> .nx ρ
 | d :: ds,ρ=>match F (ρ.set j (some d)) with
  | .nx ρ'=>AT j F ds ρ'
  | .ct ρ'=>AT j F ds ρ'
  | .bk ρ'=> .nx ρ'
  | .rt d=> .rt d
  | .exc c=> .exc c
  | .bad=> .bad
noncomputable def HB (fi:DS→Res (List D))(j:Nat)(F:DS→Out):DS→Out:=fun ρ=>(fi ρ).out fun ds=>AT j F ds ρ
end
noncomputable def fD:Out→Res D
 | .rt d=> .ok d
 | .nx _=> .ok .non
 | .exc c=> .exc c
 | _=> .bad
noncomputable def aJ (N:List Str)(ds:List D):DS:=ds.map some ++ List.replicate (N.length - ds.length) none
theorem tJ {K:W.Frag}{G:Hp}{N:List Str}{ds:List D}{vs:List V}(h:RepL K G ds vs):Ro K G (fY N vs) (aJ N ds):=by
 intro i d e
 unfold aJ at e
 unfold fY
 by_cases hi:i < ds.length
 ·rw [List.getElem?_append_left (by simpa using hi),List.getElem?_map] at e
  cases q:ds[i]? with
  | none=>rw [q] at e; cases e
  | some d'=>
   rw [q] at e; cases e
   obtain ⟨v,hv,rv⟩:=h.get q
   have hv2:i < vs.length:=(d7 hv).1
   exact ⟨v,by rw [List.getElem?_append_left (by simpa using hv2),List.getElem?_map,hv]; rfl,rv⟩
 ·rw [List.getElem?_append_right (by simpa using hi),List.getElem?_replicate] at e
  split at e <;> cases e
section
variable{P:Program}{w:World}{K:W.Frag}{mg:Str→Option Value}{base:Heap}
noncomputable abbrev xS (P:Program)(w:World)(K:W.Frag)(mg:Str→Option Value)(base:Heap)(N:List Str)(qual:Str)(scope:Scope)(f:Addr)(cdv:Value)(A:Around)(outer:List Env)(s:Shared)(H:Hp)(E:XK):Cx:=r9 (CXF P w) P w K mg base N qual scope f cdv A outer s H E
theorem Fun.okF {x qual:Str}{st:Stmt}{f:Addr}{fd:FuncData}{N ps:List Str}{k:Nat}{sp:Sp}(F:Fun K x qual st f fd)(S:FnScope N ps (ai st))(len:∀ vs H Q E,sp vs H Q E→vs.length=ps.length)
  (hbody:∀ (cdv:Value) (A:Around) (outer:List Env) (s:Shared) (H:Hp) (vs:List V) (Q:VK) (E:XK),Room k (A.deeper (envOfC qual (ai st) s.heap.objs.size f cdv))→sp vs H Q E→
   ∃ t,Fv (xS P w K mg base N qual (ai st) f cdv A outer s H E) (cK st) t∧t { nx:=fun _ H'=>Q .non H',rt:=Q } (fY N vs) H):FnOk P w K mg base (CXF P w) (k+1) f fd ps sp:=by
 refine Ch (F.ex) fun oc od kV doc pm an cdv ct osl hS112 lk hcd=> ?_; subst hS112
 exact yu lk hcd S len fun A outer s H vs Q E hr hsp=>hbody cdv A outer s H vs Q E hr hsp
theorem Fun.pure {x qual:Str}{st:Stmt}{f:Addr}{fd:FuncData}{N ps:List Str}{k:Nat}{m:List D→Res D}(F:Fun K x qual st f fd)(S:FnScope N ps (ai st))(len:∀ ds,m ds≠ .bad→ds.length=ps.length)
  (hbody:∀ (cdv:Value) (A:Around) (outer:List Env) (s:Shared) (H:Hp) (E:XK),Room k (A.deeper (envOfC qual (ai st) s.heap.objs.size f cdv))→
   ∃ Fb,Hx (xS P w K mg base N qual (ai st) f cdv A outer s H E) E (cK st) Fb∧∀ ds,m ds≠ .bad→fD (Fb (aJ N ds))=m ds):FnOk P w K mg base (CXF P w) (k+1) f fd ps (pureSp K m):=by
 have nb:∀ {E:XK} {H:Hp} {r:Res D},OkR E H r→r≠ .bad:=fun h z=>by rw [z] at h; exact h
 refine Ch (F.ex) fun oc od kV doc pm an cdv ct osl hS113 lk hcd=> ?_; subst hS113
 refine yu lk hcd S (fun vs H Q E hZ130=>(by obtain ⟨ds,G,_,rl,L,_⟩:=hZ130; rw [← rl.length]; exact len ds (nb L))) fun A outer s H vs Q E hr hsp=> ?_
 obtain ⟨ds,G,hs,rl,L,k⟩:=hsp
 obtain ⟨Fb,hb,hm⟩:=hbody cdv A outer s H E hr
 have J:=hm ds (nb L)
 have hoO:OkO E H (Fb (aJ N ds)):=by
  rw [← J] at L
  cases q:Fb (aJ N ds) with
  | exc c=>rw [q] at L; exact L
  | bad=>rw [q] at L; exact L
  | _=>trivial
 refine ⟨fun D σ H1=>(σ=fY N vs∧H1=H∧(D.nx=fun _ M=>Q .non M)∧D.rt=Q),?_,rfl,rfl,rfl,rfl⟩
 intro pins s1 σ H1 D I hZ10
 refine lP (hZ10) fun e1 e2 e3 e4=> ?_
 subst e1 e2
 refine aT (hb pins s1 _ G H1 (aJ N ds) I hs (tJ rl) hoO) fun fl s2 q=> ?_
 cases fl with
 | next=>
  refine oY (q) fun ρ' t G' M e I' x r=> ?_
  refine ⟨t,M,I',?_⟩
  rw [e3]
  exact k .non (by rw [← J,e]; rfl) .non G' M x (rep_non.mpr rfl)
 | brk=>
  refine oY (q) fun ρ' t G' M e I' x r=> ?_
  rw [e] at J
  exact absurd J.symm (nb L)
 | cont=>
  refine oY (q) fun ρ' t G' M e I' x r=> ?_
  rw [e] at J
  exact absurd J.symm (nb L)
 | ret u=>
  obtain ⟨d,v,t,G',M,e,I',rv,x,rp⟩:=q
  refine ⟨v,t,M,I',rv,?_⟩
  rw [e4]
  exact k d (by rw [← J,e]; rfl) v G' M x rp
end
section
variable{X:Cx}{E:XK}
noncomputable def ac (i:Nat):DS→Res D:=fun ρ=>match ρ[i]? with | some (some d)=> .ok d | _=> .bad
theorem dv (i:Nat){x:Str}{pos:Pos}(hN:X.N[i]?=some x:=by rfl)(hv:xP X.env.scope x:=by first | exact Or.inl rfl | exact Or.inr (Or.inl rfl) | exact Or.inr (Or.inr rfl))(hd:(x == ("__debug__" :Str))=false:=by decide)
  (hcd:(x == ("__classdict__" :Str))=false:=by decide):PD X E (.Name x pos) (ac i):=EA hN hv hd hcd
end
section
variable{α β:Type}{a:α}{f:α→Res β}{g:α→Out}{c:Addr}
theorem aD:(Res.ok a).bind f=f a:=id rfl
theorem sw:(Res.exc c:Res α).bind f= .exc c:=id rfl
theorem bp:(Res.ok a).out g=g a:=id rfl
theorem uo:(Res.exc c:Res α).out g= .exc c:=id rfl
end
section
variable{ρ:DS}{R:DS→Out}{d e:D}{i j:Int}{l:List D}{c:Addr}{F F':DS→Out}{f f':DS→Res D}{fc:DS→Res Bool}{b:Bool}
theorem dQ:(Out.nx ρ).then R=R ρ:=id rfl
theorem uq:(Out.rt d).then R= .rt d:=id rfl
theorem sy:(Out.exc c).then R= .exc c:=id rfl
theorem gc:ax F R ρ=(F ρ).then R:=id rfl
theorem yp {k:Nat}:aQ k f ρ=(f ρ).out fun d=> .nx (ρ.set k (some d)):=id rfl
theorem lf:bJ f ρ=(f ρ).out .rt:=id rfl
theorem FH:ii fc F F' ρ=(fc ρ).out fun k=>if k=true then F ρ else F' ρ:=id rfl
theorem ym {o:D→D→Res D}:ae f f' o ρ=(f ρ).bind fun a=>(f' ρ).bind fun b=>o a b:=id rfl
theorem FE {fs:DS→Res (List D)}{g:List D→Res D}:bD fs g ρ=(fs ρ).bind g:=id rfl
theorem Dk:eY f ρ=(f ρ).bind fun d=>match d with | .bl b=> .ok b | _=> .bad:=id rfl
theorem AO:ac 0 (some d :: ρ)= .ok d:=id rfl
theorem AQ {k:Nat}{o:Option D}:ac (k+1) (o :: ρ)=ac k ρ:=id rfl
theorem AJ {o o':Option D}:(o :: ρ).set 0 o'=o' :: ρ:=id rfl
theorem AK {k:Nat}{o o':Option D}:(o :: ρ).set (k+1) o'=o :: ρ.set k o':=id rfl
theorem yo:fD (.rt d)= .ok d:=id rfl
theorem yn:fD (.nx ρ)= .ok .non:=id rfl
theorem wR:fD (.exc c)= .exc c:=id rfl
theorem Di:xW (.int i) (.int j)= .ok (.int (i+j)):=id rfl
theorem DJ:rC (.int i) (.int j)= .ok (.int (i - j)):=id rfl
theorem AE (h1: -(2 ^ 64) < j)(h2:j < 2 ^ 64):xu (.int i) (.int j)= .ok (.int (i * j)):=by
 unfold xu iH; dsimp only; rw [if_pos (decide_eq_true (show CMul i j from Or.inr ⟨h1,h2⟩))]
theorem AD (h1: -(2 ^ 64) < i)(h2:i < 2 ^ 64):xu (.int i) (.int j)= .ok (.int (i * j)):=by
 unfold xu iH; dsimp only; rw [if_pos (decide_eq_true (show CMul i j from Or.inl ⟨h1,h2⟩))]
theorem qB (h:0 < j):qU (.int i) (.int j)= .ok (.int (i % j)):=by
 unfold qU iH; dsimp only; rw [if_pos (decide_eq_true h)]
theorem vB (h1:0 < j)(h2:j < 1073741824):vG (.int i) (.int j)= .ok (.int (i / j)):=by
 unfold vG iH; dsimp only; rw [if_pos (decide_eq_true (show xR i j from ⟨h1,h2⟩))]
theorem FJ:sV (.int i) (.int j)= .ok (.bl (decide (i < j))):=id rfl
theorem Cq:sO (.int i) (.int j)= .ok (.bl (decide (i≤j))):=id rfl
theorem FG:Hk (.int i) (.int j)= .ok (.bl (decide (j < i))):=id rfl
theorem FF:Io (.int i) (.int j)= .ok (.bl (decide (j≤i))):=id rfl
theorem vC:ba [.lst l]= .ok (.int l.length):=id rfl
theorem Ay:ba [.tup l]= .ok (.int l.length):=id rfl
theorem ld {d:D}(h:atI l i=some d):aA (.lst l) (.int i)= .ok d:=by unfold aA; dsimp only; rw [h]
theorem dP {d:D}(h:atI l i=some d):aA (.tup l) (.int i)= .ok d:=by unfold aA; dsimp only; rw [h]
theorem jK {α:Type}{xs:List α}{i:Int}{v:α}(h0:0≤i)(h:xs[i.toNat]?=some v):atI xs i=some v:=by
 have:=vn (j:=i.toNat) h
 rwa [Int.toNat_of_nonneg h0] at this
theorem AC:Gy [.int i,.int j]= .ok (.int (min i j)):=id rfl
theorem AA:pO [.int i,.int j]= .ok (.int (max i j)):=id rfl
end
section
variable{X:Cx}{E:XK}
noncomputable def pq (f:DS→Res D):DS→Out:=fun ρ=>(f ρ).out fun _=> .nx ρ
noncomputable def qM (K:W.Frag)(C:Addr)(m:List D→Res D):Sp:=fun vs H Q E=>∃ p dx rest ds G,vs= .ref p :: rest∧H p=some (.ins C dx [])∧Same G H∧G p=none∧RepL K G ds rest∧OkR E H (m ds)∧
 ∀ ns fds,m ds= .ok (.ins C ns fds)→∀ fs G' H',fs.map (·.1)=ns→RepL K G' fds (fs.map (·.2))→H' p=some (.ins C dx fs)→(∀ b o,H b=some o→b≠p→H' b=some o)→Same G G'→Same G' H'→(∀ b o,G' b=some o→G b=some o∨H b=none∨oK o)→G' p=none→Q .non H'
noncomputable def CO (C:Addr)(m:List D→Res D):Prop:=∀ ds d,m ds= .ok d→∃ ns fds,d= .ins C ns fds
theorem Bu {CX:rM}{k:Nat}{f C:Addr}{fd:FuncData}{ps:List Str}{m:List D→Res D}{x:Str}{p pos:Pos}{e:Expr}{es:List Expr}{fs:DS→Res (List D)}(M:Mk X.K C f)(F:FnOk X.prog X.w X.K X.mg X.base CX k f fd ps (qM X.K C m))(hmk:CO C m)(hr:Room (k+1) X.A)(hg:Gl X x)(hm:X.mg x=some (.ref C))(hb:Binds X.K fd ps [])(hx:cP CX X E)
  (ha:mB X E (e :: es) fs) (hpe:∀ t,PA X (e :: es) t→PE X (.Call (.Name x p) (e :: es) [] pos) (CI C (qM X.K C m) [] E t)) :
  PD X E (.Call (.Name x p) (e :: es) [] pos) (bD fs m):=by
 intro pins s σ G H ρ I hs hro ho
 refine aT (hpe _ (jz ha) pins s σ H (fun v H'=>∃ d G',bD fs m ρ= .ok d∧Ext G H G' H'∧Rep X.K G' d v) I ?_) fun u s' hZ131=>(by obtain ⟨v,H',I',r',d,G',e,x,rp⟩:=hZ131; exact ⟨d,e,v,G',H',I',r',x,rp⟩)
 refine ⟨G,ρ,hs,hro,ho.fst,fun ds e1 vs G1 H1 x1 p1 y dy hy hdy hne=> ?_⟩
 have kk:=ho.snd e1 x1.hh
 have N:Same H1 (br (br H1 dy (.own y)) y (.ins C dy [])):=fun b o J=>by rw [al (aF J hy),al (aF J hdy)]; exact J
 have fr2:∀ b,(br (br H1 dy (.own y)) y (.ins C dy [])) b=none→H1 b=none:=fun b J=>N.free J
 have g1y:G1 y=none:=by
  cases q:G1 y with
  | none=>rfl
  | some o=>rw [x1.gh y o q] at hy; cases hy
 refine ⟨y,dy,vs,ds,G1,by rw [List.append_nil],aw,x1.gh.trans N,g1y,p1,kk.le N,fun ns fds em fs2 G' H' hn rl hp kp sg sh nw gp=>⟨rfl,?_⟩⟩
 refine (dJ (.ins C ns fds) (br G' y (.ins C dy fs2)) (au e1 em) (x1.trans ⟨?_,?_,?_,?_⟩) (rep_ins.mpr (jT y dy fs2 rfl aw hn (rl.mono ?_))))
 ·exact fun b o J=>kp b o (N b o J) (aF J hy)
 ·exact fun b o J=>by rw [al (aF (sg b o J) gp)]; exact sg b o J
 ·intro b o J
  by_cases L:b=y
  ·subst L; rw [aw] at J; cases J; exact hp
  ·rw [al L] at J; exact sh b o J
 ·intro b o J
  by_cases L:b=y
  ·subst L; exact .inr (.inl hy)
  ·rw [al L] at J
   exact (nw b o J).imp id (Or.imp (fr2 b) id)
 ·exact fun b o J=>by rw [al (aF J gp)]; exact J
noncomputable def Ie (F:DS→Out)(g:Addr→Option D):DS→Out:=fun ρ=>match F ρ with
 | .exc c=>(match g c with | some d=> .rt d | none=> .bad)
 | o=>o
end
theorem vp:bootBuiltins "list" =some (.type "list"):=by decide +kernel
theorem x6:bootBuiltins "tuple" =some (.type "tuple"):=by decide +kernel
theorem x0:bootBuiltins "min" =some (.builtin "min"):=by decide +kernel
theorem xZ:bootBuiltins "max" =some (.builtin "max"):=by decide +kernel
section
variable{X:Cx}{E:XK}
theorem tj {x:Str}{i:Int}{pos:Pos}(hm:∃ t,X.mg x=some (.int i t))(hg:Gl X x:=by rfl)(hd:(x == ("__debug__" :Str))=false:=by decide):PD X E (.Name x pos) (fun _=> .ok (.int i)):=by
 obtain ⟨t,hm⟩:=hm
 exact zb hg hm ⟨t,rfl⟩ hd
end
section
variable{ρ:DS}{fa fb fc:DS→Res D}{f g:DS→Res Bool}{b:Bool}{c:Addr}{F:DS→Out}{j:Nat}{d:D}{ds:List D}
theorem Dj:wA f g ρ=(f ρ).bind fun b=>if b=true then g ρ else .ok false:=id rfl
theorem FL:Hn f g ρ=(f ρ).bind fun b=>if b=true then .ok true else g ρ:=id rfl
theorem DH:mq f ρ=(f ρ).bind fun b=> .ok (!b):=id rfl
theorem Aw:pq fa ρ=(fa ρ).out fun _=> .nx ρ:=id rfl
theorem Dq {fi:DS→Res (List D)}:HB fi j F ρ=(fi ρ).out fun ds=>AT j F ds ρ:=id rfl
theorem DE {a b:Int}:uJ (.int a) (.int b)= .ok (.bl (!(a == b))):=id rfl
theorem Do {a b:Int}:xQ (.int a) (.int b)= .ok (.bl (a == b)):=id rfl
theorem Au:CV fa fb ρ=(fa ρ).bind fun d=>match d with | .bl true=>fb ρ | .bl false=> .ok (.bl false) | _=> .bad:=id rfl
theorem AF:HI fa ρ=(fa ρ).bind fun d=>match d with | .bl b=> .ok (.bl (!b)) | _=> .bad:=id rfl
theorem Az {fs:DS→Res (List D)}:i6 fs ρ=(fs ρ).bind fun ds=>if aX ds.length=true then .ok (.lst ds) else .bad:=id rfl
theorem AM {fs:DS→Res (List D)}:fK fs ρ=(fs ρ).bind fun ds=>if aX ds.length=true then .ok (.tup ds) else .bad:=id rfl
theorem AB {C:Addr}{m:Str}{gm:List D→Res D}:gG C m fa gm ρ=(fa ρ).bind fun o=>if lS C m o=true then gm [o] else .bad:=id rfl
theorem yq {lo hi:DS→Res (Option Int)}:tT fa lo hi ρ=(fa ρ).bind fun d=>(lo ρ).bind fun l=>(hi ρ).bind fun u=>iD l u d:=id rfl
theorem DK {F:DS→Out}{gx:Addr→Option D}:Ie F gx ρ=match F ρ with | .exc c=>(match gx c with | some d=> .rt d | none=> .bad) | o=>o:=id rfl
theorem Dv {d:D}:HG d .non= .ok (.bl (Hl d)):=id rfl
theorem AG {d:D}:GA d .non= .ok (.bl (!Hl d)):=id rfl
end
section
variable{X:Cx}{E:XK}
theorem GI {pl:Sem Bool}{k:Nat}{f C:Addr}{fd:FuncData}{ps:List Str}{g:List D→Res D}{m:Str}{apos pos:Pos}{o:Expr}{fo:DS→Res D}(hoo:PD X E o fo)(c:Cls X.K C)(hm:Meth X.K C m f)(F:FnOk X.prog X.w X.K X.mg X.base (CXF X.prog X.w) k f fd ps (pureSp X.K g))(hr:Room k X.A)(hb:Binds X.K fd ps [])
  (hx:cP (CXF X.prog X.w) X E:=by exact iU fun _ _ _ h=>h)
  (ht:eval (.Call (.Attribute o m apos) [] [] pos) X.env=(do
   let ov ← eval o X.env
   standAt apos.atName
   let (f,first) ← holding [ov] (getMethod ov m pl)
   callWith pos f first (backTo pos (starEach [] X.env)) (backToKw pos (keywordEach [] X.env))):=by rfl):PD X E (.Call (.Attribute o m apos) [] [] pos) (gG C m fo g):=
 zc (pl:=pl) hoo c hm F hr hb hx (zj (pl:=pl) (fL hoo) c hm F hr hb .nil hx ht)
end
section
variable{X:Cx}{E:XK}{e e2:Expr}{p pos:Pos}{f f2:DS→Res D}
theorem aY (hm:X.mg "len" =none)(h:PD X E e f)(hg:Gl X "len" :=by rfl)(he:starEach [e] X.env=(false,eval e X.env) :: starEach [] X.env:=by rfl):PD X E (.Call (.Name "len" p) [e] [] pos) (fun ρ=>(f ρ).bind fun a=>ba [a]):=by
 have q:=ee (X:=X) (E:=E) (p:=p) (pos:=pos) qp Dc hg hm PySem.boot_len (aa h af he) (by decide) (by decide) he rfl
 have e:bD (fun ρ=>(f ρ).bind fun d=>(Res.ok []:Res (List D)).bind fun ds=> .ok (d :: ds)) ba=fun ρ=>(f ρ).bind fun a=>ba [a]:=funext fun ρ=>by
  show ((f ρ).bind _).bind _=_
  cases f ρ <;> rfl
 exact e ▸ q
theorem Bt (hm:X.mg "list" =none)(h:PD X E e f)(hg:Gl X "list" :=by rfl)(he:starEach [e] X.env=(false,eval e X.env) :: starEach [] X.env:=by rfl):PD X E (.Call (.Name "list" p) [e] [] pos) (fun ρ=>(f ρ).bind fun a=>gB [a]):=by
 have q:=lH (X:=X) (E:=E) (p:=p) (pos:=pos) j8 vx hg hm vp (aa h af he) (by decide) (by decide) he rfl
 have e:bD (fun ρ=>(f ρ).bind fun d=>(Res.ok []:Res (List D)).bind fun ds=> .ok (d :: ds)) gB=fun ρ=>(f ρ).bind fun a=>gB [a]:=funext fun ρ=>by
  show ((f ρ).bind _).bind _=_
  cases f ρ <;> rfl
 exact e ▸ q
theorem zf (hm:X.mg "tuple" =none)(h:PD X E e f)(hg:Gl X "tuple" :=by rfl)(he:starEach [e] X.env=(false,eval e X.env) :: starEach [] X.env:=by rfl):PD X E (.Call (.Name "tuple" p) [e] [] pos) (fun ρ=>(f ρ).bind fun a=>on [a]):=by
 have q:=lH (X:=X) (E:=E) (p:=p) (pos:=pos) oE x_ hg hm x6 (aa h af he) (by decide) (by decide) he rfl
 have e:bD (fun ρ=>(f ρ).bind fun d=>(Res.ok []:Res (List D)).bind fun ds=> .ok (d :: ds)) on=fun ρ=>(f ρ).bind fun a=>on [a]:=funext fun ρ=>by
  show ((f ρ).bind _).bind _=_
  cases f ρ <;> rfl
 exact e ▸ q
theorem Bw (hm:X.mg "min" =none)(h:PD X E e f)(hc:X.calm=true:=by rfl)(hg:Gl X "min" :=by rfl)(he:starEach [e] X.env=(false,eval e X.env) :: starEach [] X.env:=by rfl):PD X E (.Call (.Name "min" p) [e] [] pos) (fun ρ=>(f ρ).bind fun a=>oQ [a]):=by
 have q:=ee (X:=X) (E:=E) (p:=p) (pos:=pos) (wG hc) An hg hm x0 (aa h af he) (by decide) (by decide) he rfl
 have e:bD (fun ρ=>(f ρ).bind fun d=>(Res.ok []:Res (List D)).bind fun ds=> .ok (d :: ds)) oQ=fun ρ=>(f ρ).bind fun a=>oQ [a]:=funext fun ρ=>by
  show ((f ρ).bind _).bind _=_
  cases f ρ <;> rfl
 exact e ▸ q
theorem vU (hm:X.mg "max" =none)(h:PD X E e f)(hc:X.calm=true:=by rfl)(hg:Gl X "max" :=by rfl)(he:starEach [e] X.env=(false,eval e X.env) :: starEach [] X.env:=by rfl):PD X E (.Call (.Name "max" p) [e] [] pos) (fun ρ=>(f ρ).bind fun a=>mn [a]):=by
 have q:=ee (X:=X) (E:=E) (p:=p) (pos:=pos) (wF hc) Am hg hm xZ (aa h af he) (by decide) (by decide) he rfl
 have e:bD (fun ρ=>(f ρ).bind fun d=>(Res.ok []:Res (List D)).bind fun ds=> .ok (d :: ds)) mn=fun ρ=>(f ρ).bind fun a=>mn [a]:=funext fun ρ=>by
  show ((f ρ).bind _).bind _=_
  cases f ρ <;> rfl
 exact e ▸ q
theorem Bv {fs:DS→Res (List D)}(hm:X.mg "max" =none)(h:mB X E [e,e2] fs)(hc:X.calm=true:=by rfl)(hg:Gl X "max" :=by rfl)(he:starEach [e,e2] X.env=(false,eval e X.env) :: starEach [e2] X.env:=by rfl)(hpl:(backTo pos (starEach [e2] X.env)).any (·.1)=false:=by rfl):PD X E (.Call (.Name "max" p) [e,e2] [] pos) (bD fs pO):=
 ee (wE hc) Al hg hm xZ h (by decide) (by decide) he hpl
end
section
variable{ρ:DS}{fa fb fc:DS→Res D}{c:Addr}{l:List D}{i:Int}
noncomputable def Hm:D→D→Res D→Res Bool
 | .int a,.int b,z=>if a≤b then z.bind fun c=>(match c with | .int c=> .ok (decide (b≤c)) | _=> .bad) else .ok false
 | _,_,_=> .bad
theorem Dx {x y z:Int}:Hm (.int x) (.int y) (.ok (.int z))= .ok (decide (x≤y) && decide (y≤z)):=by
 unfold Hm
 dsimp only
 by_cases h:x≤y
 ·rw [if_pos h,decide_eq_true h]; rfl
 ·rw [if_neg h,decide_eq_false h]; rfl
theorem wQ:hX fa fb fc sO sO ρ=(fa ρ).bind fun a=>(fb ρ).bind fun b=>Hm a b (fc ρ):=by
 unfold hX
 cases fa ρ with
 | ok a=>
  cases fb ρ with
  | ok b=>
   rw [aD,aD,aD,aD]
   cases a with
   | int x=>
    cases b with
    | int y=>
     rw [Cq,aD]
     unfold Hm
     dsimp only
     by_cases h:x≤y
     ·rw [decide_eq_true h,if_pos h]
      dsimp only
      cases fc ρ with
      | ok c=>
       rw [aD,aD]
       cases c <;> rfl
      | _=>rfl
     ·rw [decide_eq_false h,if_neg h]
    | _=>rfl
   | _=>cases b <;> rfl
  | _=>rfl
 | _=>rfl
theorem Dl:Hz (.int i)= .ok (some i):=id rfl
theorem AN:EY (.tup l)= .ok l:=id rfl
theorem AI:BX (.lst l)= .ok l:=id rfl
theorem FN:EN c (fun _=>true) ρ= .exc c:=id rfl
theorem DG:El (.int i)= .ok (.int (-i)):=id rfl
theorem AL {x y z:D}:(([x,y,z]:List D).length:Int)=3:=id rfl
theorem pj {x:D}{r:List D}:aA (.tup (x :: r)) (.int 0)= .ok x:=dP (jK (by decide) rfl)
theorem vF {x y:D}{r:List D}:aA (.tup (x :: y :: r)) (.int 1)= .ok y:=dP (jK (by decide) rfl)
theorem pk {x y z:D}{r:List D}:aA (.tup (x :: y :: z :: r)) (.int 2)= .ok z:=dP (jK (by decide) rfl)
theorem yj {x:D}{r:List D}:aA (.lst (x :: r)) (.int 0)= .ok x:=ld (jK (by decide) rfl)
theorem yk {x y:D}{r:List D}:aA (.lst (x :: y :: r)) (.int 1)= .ok y:=ld (jK (by decide) rfl)
theorem Dy {α:Type}:aX ([]:List α).length=true:=decide_eq_true (by show 0≤100000; decide)
theorem Dz {α:Type}{a:α}:aX [a].length=true:=decide_eq_true (by show 1≤100000; decide)
theorem DA {α:Type}{a b:α}:aX [a,b].length=true:=decide_eq_true (by show 2≤100000; decide)
theorem DB {α:Type}{a b c:α}:aX [a,b,c].length=true:=decide_eq_true (by show 3≤100000; decide)
theorem DC {α:Type}{a b c d:α}:aX [a,b,c,d].length=true:=decide_eq_true (by show 4≤100000; decide)
theorem DI {x y z:D}:iD none (some 2) (.tup [x,y,z])= .ok (.tup [x,y]):=by
 unfold iD
 dsimp only
 rw [if_neg (by simp [HT.cB])]
 rfl
end
theorem fF {P:Program}{w:World}{X:Cx}:cP (CXF P w) X qf:=by
 intro pins σ H s e s' I h
 obtain ⟨_,_,_,_,_,_,_,_,_,_,_,_,_,_,q⟩:=h
 exact q.elim
noncomputable def Gn:D→Option bH
 | .int i=>some (.inl i)
 | .str x=>some (.inr x)
 | _=>none
noncomputable def gz:List D→Option (List bH)
 | []=>some []
 | d :: ds=>match Gn d,gz ds with
  | some k,some ks=>some (k :: ks)
  | _,_=>none
theorem jm {K:W.Frag}{G:Hp}:∀ {ds:List D} {xs:List V} {k:List bH},RepL K G ds xs→gz ds=some k→xs=k.map kV
 | [],xs,k,h,e=>by unfold gz at e; cases e; rw [h.inv0]; rfl
 | d :: ds,xs,k,h,e=>by
  refine bA (h.inv) fun v r hS114 h1 h2=> ?_; subst hS114
  unfold gz at e
  split at e
  ·rename_i k0 ks e1 e2
   cases e
   rw [jm h2 e2]
   unfold Gn at e1
   split at e1
   ·cases e1; rw [rep_int.mp h1]; rfl
   ·cases e1; rw [rep_str.mp h1]; rfl
   ·cases e1
  ·cases e
noncomputable def rF:List (List bH)→List D→List bH→Option D
 | k :: ks,d :: ds,q=>if k=q then some d else rF ks ds q
 | _,_,_=>none
theorem t6 {K:W.Frag}{G:Hp}{q:List bH}:∀ {kvs:List (List bH×V)} {ds:List D},RepL K G ds (kvs.map (·.2))→(∀ d,rF (kvs.map (·.1)) ds q=some d→∃ v,iL kvs q=some v∧Rep K G d v)∧(rF (kvs.map (·.1)) ds q=none→iL kvs q=none)
 | [],ds,h=>⟨fun d e=>(by unfold rF at e; cases ds <;> cases e),fun _=>rfl⟩
 | (k,v) :: r,ds,h=>by
  cases ds with
  | nil=>exact absurd h.inv0 (by simp)
  | cons d0 ds=>
   refine bA (h.inv) fun v' r' e' h1 h2=> ?_
   rw [List.map_cons] at e'
   cases e'
   have ih:=t6 (q:=q) h2
   have ev:iL ((k,v) :: r) q=if k=q then some v else iL r q:=by
    unfold iL
    rw [List.find?_cons]
    by_cases z:k=q
    ·rw [decide_eq_true z,if_pos z]; rfl
    ·rw [decide_eq_false z,if_neg z]
   rw [List.map_cons]
   unfold rF
   rw [ev]
   by_cases z:k=q
   ·rw [if_pos z,if_pos z]
    exact ⟨fun d e=>⟨v,rfl,(by cases e; exact h1)⟩,fun e=>(by cases e)⟩
   ·rw [if_neg z,if_neg z]
    exact ih
noncomputable def j_ (ks:List (List bH))(ds kd:List D):Res D:=match gz kd with
 | some k=>(match rF ks ds k with | some d=> .ok d | none=> .bad)
 | none=> .bad
noncomputable def cA:D→D→Res D
 | .dct ks ds,.tup kd=>j_ ks ds kd
 | .fdc ks ds,.tup kd=>j_ ks ds kd
 | _,_=> .bad
theorem Same.rd {H H':Hp}{a:Addr}{u:HO}(s:Same H H')(h:Rd H a u):Rd H' a u:=by
 rcases h with h | ⟨o,h⟩
 ·exact .inl (s _ _ h)
 ·exact .inr ⟨o,s _ _ h⟩
section
variable{X:Cx}{E:XK}
theorem mM {o i:Expr}{pos:Pos}{fo fi:DS→Res D}(hu:X.A.units+64 < cLine)(ho:PD X E o fo)(hi:PD X E i fi)(hs:zZ i:=by intro _ _; rfl):PD X E (.Subscript o i pos) (ae fo fi cA):=by
 intro pins s σ G H ρ I hsm hro hok
 refine aT (v6 (pos:=pos) (by omega) (fL ho) (fL hi) hs pins s σ H (fun v H'=>∃ d G',ae fo fi cA ρ= .ok d∧Ext G H G' H'∧Rep X.K G' d v) I ?_) fun u s' hZ132=>(by obtain ⟨v,H',I',r',d,G',e,x,rp⟩:=hZ132; exact ⟨d,e,v,G',H',I',r',x,rp⟩)
 refine ⟨G,ρ,hsm,hro,hok.fst,fun d1 e1 v1 G1 H1 x1 p1=>⟨G1,ρ,x1.gh,hro.mono x1.gg,(hok.snd e1 x1.hh).fst,fun d2 e2 v2 G2 H2 x2 p2=> ?_⟩⟩
 have M:=(hok.snd e1 x1.hh).snd e2 x2.hh
 have eo:ae fo fi cA ρ=cA d1 d2:=by unfold ae; rw [e1,aD,e2,aD]
 have go:∀ {ks:List (List bH)} {ds kd:List D} {a:Addr} {L:List (List bH×V)},cA d1 d2=j_ ks ds kd→v1= .ref a→Rd G1 a (.dT L)→L.map (·.1)=ks→RepL X.K G1 ds (L.map (·.2))→Rep X.K G2 (.tup kd) v2→CH (fun _ H Q=>Q v1 H) (fun _ H Q=>Q v2 H) σ H2 (fun v H'=>∃ d G',ae fo fi cA ρ= .ok d∧Ext G H G' H'∧Rep X.K G' d v):=fun {ks ds kd a L} ed ev rd hk rl p2=>by
  rw [ed] at M
  unfold j_ at M
  cases ek:gz kd with
  | none=>rw [ek] at M; exact M.elim
  | some k=>
  rw [ek] at M
  dsimp only at M
  cases eq:rF ks ds k with
  | none=>rw [eq] at M; exact M.elim
  | some d=>
  rw [rep_tup] at p2
  refine bA (p2) fun b xs hS115 tb rk=> ?_; subst hS115
  subst hk
  obtain ⟨v,ev',rv⟩:=(t6 (q:=k) rl).1 d eq
  have hx:=jm rk ek
  subst hx
  refine (Gf a v ev (.inr (jT L k b ((x2.gg.trans x2.gh).rd rd) rfl (x2.gh _ _ tb.h) ev'.symm)) d G2 ?_ (x1.trans x2) (rv.mono x2.gg))
  rw [eo,ed]
  unfold j_
  rw [ek]
  dsimp only
  rw [eq]
 cases d1 with
 | dct ks ds=>
  cases d2 with
  | tup kd=>
   rw [rep_dct] at p1
   refine oC (p1) fun a L e rd hk rl=> ?_
   exact go rfl e rd hk rl p2
  | _=>exact M.elim
 | fdc ks ds=>
  cases d2 with
  | tup kd=>
   rw [rep_fdc] at p1
   refine jA (p1) fun a o L e rd hk rl=> ?_
   exact go rfl e (.inr ⟨o,rd⟩) hk rl p2
  | _=>exact M.elim
 | _=>exact M.elim
end
section
variable{X:Cx}{E:XK}
noncomputable def xX:D→D→Res D
 | .str a,.str b=>if aX (a.length+b.length)=true then .ok (.str (a ++ b)) else .bad
 | _,_=> .bad
theorem do_addS:DOp X E (binaryOp .Add) xX:=DOp.of uK fun G H x y dx dy hs rx ry ok=>by
 unfold xX at ok ⊢
 split at ok
 ·rename_i a b
  rw [rep_str] at rx ry
  subst rx ry
  by_cases hz:aX (a.length+b.length)=true
  ·rw [if_pos hz]
   exact (Gd a b rfl rfl (b0 hz) _ G rfl (.refl hs) (rep_str.mpr rfl))
  ·rw [if_neg hz] at ok; exact ok.elim
 ·exact ok.elim
noncomputable def wI:D→D→Res D
 | .lst a,.lst b=>if aX (a.length+b.length)=true then .ok (.lst (a ++ b)) else .bad
 | _,_=> .bad
theorem Dg:DOp X E (binaryOp .Add) wI:=DOp.of Ep fun G H x y dx dy hs rx ry ok=>by
 unfold wI at ok ⊢
 split at ok
 ·rename_i a b
  rw [rep_lst] at rx ry
  refine bA (rx) fun p xs hS116 l1 r1=> ?_; subst hS116
  refine bA (ry) fun q ys hS117 l2 r2=> ?_; subst hS117
  by_cases hz:aX (a.length+b.length)=true
  ·rw [if_pos hz]
   refine (Bc p q xs ys rfl rfl (hs _ _ l1.h) (hs _ _ l2.h) (by rw [← r1.length,← r2.length]; exact b0 hz) (fun t ht=>(dJ _ _ rfl (.new hs ht _) ?_)))
   exact rep_lst.mpr (dJ t _ rfl (.of aw) ((r1.append r2).mono (Ext.new hs ht _).gg))
  ·rw [if_neg hz] at ok; exact ok.elim
 ·exact ok.elim
theorem RepL.flat {K:W.Frag}{G:Hp}{ds:List D}{vs:List V}(h:RepL K G ds vs):∀ n:Nat,RepL K G (List.replicate n ds).flatten (List.replicate n vs).flatten
 | 0=> .nil
 | n+1=>by rw [List.replicate_succ,List.replicate_succ,List.flatten_cons,List.flatten_cons]; exact h.append (RepL.flat h n)
noncomputable def EO:D→D→Res D
 | .lst a,.int k=>if (decide (-1000000≤k) && decide (k≤1000000) && aX (a.length * k.toNat))=true then .ok (.lst (List.replicate k.toNat a).flatten) else .bad
 | _,_=> .bad
theorem Dh:DOp X E (binaryOp .Mult) EO:=DOp.of Et fun G H x y dx dy hs rx ry ok=>by
 unfold EO at ok ⊢
 split at ok
 ·rename_i a k
  rw [rep_lst] at rx
  rw [rep_int] at ry
  subst ry
  refine bA (rx) fun p xs hS118 l1 r1=> ?_; subst hS118
  by_cases hz:(decide (-1000000≤k) && decide (k≤1000000) && aX (a.length * k.toNat))=true
  ·rw [if_pos hz]
   simp only [Bool.and_eq_true,decide_eq_true_eq] at hz
   refine ⟨p,k,xs,rfl,rfl,hs _ _ l1.h,by omega,by omega,by rw [← r1.length]; exact b0 hz.2,fun t ht=>(dJ _ _ rfl (.new hs ht _) ?_)⟩
   exact rep_lst.mpr (dJ t _ rfl (.of aw) ((r1.flat _).mono (Ext.new hs ht _).gg))
  ·rw [if_neg hz] at ok; exact ok.elim
 ·exact ok.elim
noncomputable def CB (g1 g2:D→D→Res D)(a b:D):Res D:=match g1 a b with
 | .bad=>g2 a b
 | r=>r
theorem DOp.or {f:Value→Value→Sem Value}{g1 g2:D→D→Res D}(h1:DOp X E f g1)(h2:DOp X E f g2):DOp X E f (CB g1 g2):=by
 intro o s σ G H x y dx dy v u I hs rx ry rv ru ok
 unfold CB at ok ⊢
 cases q:g1 dx dy with
 | bad=>
  rw [q] at ok
  exact h2 o s σ G H x y dx dy v u I hs rx ry rv ru ok
 | ok d=>
  rw [q] at ok
  have:=h1 o s σ G H x y dx dy v u I hs rx ry rv ru (by rw [q]; exact ok)
  rw [q] at this
  exact this
 | exc c=>
  rw [q] at ok
  have:=h1 o s σ G H x y dx dy v u I hs rx ry rv ru (by rw [q]; exact ok)
  rw [q] at this
  exact this
noncomputable def aO:D→D→Res D:=CB xW (CB xX wI)
noncomputable def dR:D→D→Res D:=CB xu EO
theorem aB:DOp X E (binaryOp .Add) aO:=do_add.or (do_addS.or Dg)
theorem cc:DOp X E (binaryOp .Mult) dR:=do_mul.or Dh
theorem su {i j:Int}:aO (.int i) (.int j)= .ok (.int (i+j)):=id rfl
theorem sv {a b:List D}(h:aX (a.length+b.length)=true):aO (.lst a) (.lst b)= .ok (.lst (a ++ b)):=by
 show wI (.lst a) (.lst b)=_
 exact if_pos h
end
section
variable{X:Cx}{E:XK}{tg:Expr}
end
section
variable{X:Cx}{E:XK}
end
section
variable{X:Cx}{E:XK}
end
section
variable{X:Cx}{E:XK}{pins:List (Addr×Obj)}{σ:St}{H:Hp}{s:Shared}
end
section
variable{X:Cx}{E:XK}{pins:List (Addr×Obj)}{σ:St}{H:Hp}{s:Shared}
end
section
variable{X:Cx}{pins:List (Addr×Obj)}{σ:St}{H:Hp}{s:Shared}{scope:Scope}{N:List Str}{caps:List (Option Nat)}
end
section
variable{X:Cx}{pins:List (Addr×Obj)}{σ:St}{H:Hp}{s:Shared}{scope:Scope}{N:List Str}{caps:List (Option Nat)}{E:XK}
end
section
variable{X:Cx}{E:XK}
end
section
variable{X:Cx}{CX:rM}{k:Nat}{f C:Addr}{fd:FuncData}{ps:List Str}{sp:Sp}{dvs:List V}{ds:List Value}{E:XK}
end
end L2
namespace TX
open PySem PySem.Builtin PySem.Builtin.Str PySem.StrLaws
end TX
namespace L2
open PySem PySem.Spec PyProof.Rows
section
variable{X:Cx}{E:XK}
end
end L2
namespace PySem
open Sem (wp)
end PySem
namespace L2
open PySem PySem.Spec PyProof.Rows
section
variable{X:Cx}{E:XK}{e:Expr}{f:DS→Res D}{p pos:Pos}
theorem qX {g:List D→Res D}:bD (fun ρ=>(f ρ).bind fun d=>(Res.ok []:Res (List D)).bind fun ds=> .ok (d :: ds)) g=fun ρ=>(f ρ).bind fun a=>g [a]:=funext fun ρ=>by
 show ((f ρ).bind _).bind _=_
 cases f ρ <;> rfl
theorem Dp {a b:Str}:xQ (.str a) (.str b)= .ok (.bl (a == b)):=id rfl
theorem DF {a b:Str}:uJ (.str a) (.str b)= .ok (.bl (!(a == b))):=id rfl
end
mutual
noncomputable def flat:D→Bool
 | .lst _=>false
 | .dct _ _=>false
 | .fdc _ _=>false
 | .scr _=>false
 | .tup l=>flats l
 | .ins _ _ l=>flats l
 | _=>true
noncomputable def flats:List D→Bool
 | []=>true
 | d :: ds=>flat d && flats ds
end
theorem jQ:∀ (ns:List Int),flats (ns.map D.int)=true
 | []=>by unfold flats; rfl
 | n :: ns=>by rw [List.map_cons]; unfold flats; rw [jQ ns]; unfold flat; rfl
noncomputable def isCell (S:Addr→Prop)(o:HO):Prop:=(∃ xs,o= .lst xs)∨(∃ kvs,o= .dT kvs)∨∃ xs b,o= .tup xs∧V.ref b∈xs∧S b
theorem isCell.mono {S T:Addr→Prop}{o:HO}(k:∀ a,S a→T a)(h:isCell S o):isCell T o:=h.imp id (Or.imp id fun hZ133=>(by refine bA (hZ133) fun xs b e m s=> ?_; exact (dJ xs b e m (k b s))))
theorem isCell.nokey {S:Addr→Prop}{o:HO}(h:isCell S o):¬ oK o:=by
 intro hZ11
 obtain ⟨ks,rfl⟩:=hZ11
 rcases h with ⟨xs,e⟩ | ⟨kvs,e⟩ | ⟨xs,b,e,m,s⟩
 ·cases e
 ·cases e
 ·cases e
  obtain ⟨k,_,e⟩:=List.mem_map.mp m
  cases k with
  | inl i=>cases e
  | inr x=>cases e
noncomputable def pD (W:Addr→Prop)(G:Hp):Hp:=fun b=> @ite _ (W b) (Classical.propDecidable _) none (G b)
theorem kx {W:Addr→Prop}{G:Hp}{b:Addr}{o:HO}(h:pD W G b=some o):¬ W b∧G b=some o:=by
 unfold pD at h
 by_cases q:W b
 ·rw [if_pos q] at h; cases h
 ·rw [if_neg q] at h; exact ⟨q,h⟩
theorem qJ {W:Addr→Prop}{G:Hp}{b:Addr}{o:HO}(h1:¬ W b)(h2:G b=some o):pD W G b=some o:=by
 unfold pD
 rw [if_neg h1]
 exact h2
theorem DN {W:Addr→Prop}{G:Hp}{b:Addr}(h1:W b):pD W G b=none:=by
 unfold pD
 rw [if_pos h1]
mutual
theorem Rep.nocell {K:W.Frag}{G:Hp}{W:Addr→Prop}(hl:∀ b o,W b→G b=some o→isCell W o):∀ {d:D} {v:V},L2.flat d=true→Rep K G d v→∀ a,v= .ref a→¬ W a
 | .non,_,_,h,a,e=>by unfold Rep at h; subst h; cases e
 | .bl _,_,_,h,a,e=>by unfold Rep at h; subst h; cases e
 | .int _,_,_,h,a,e=>by unfold Rep at h; subst h; cases e
 | .str _,_,_,h,a,e=>by unfold Rep at h; subst h; cases e
 | .lst ds,_,ha,_,_,_=>by unfold L2.flat at ha; cases ha
 | .dct _ _,_,ha,_,_,_=>by unfold L2.flat at ha; cases ha
 | .fdc _ _,_,ha,_,_,_=>by unfold L2.flat at ha; cases ha
 | .scr _,_,ha,_,_,_=>by unfold L2.flat at ha; cases ha
 | .tup ds,_,ha,h,a,e=>fun w=>by
  unfold Rep at h
  unfold L2.flat at ha
  refine bA (h) fun a' ys r s t=> ?_
  subst r
  cases e
  rcases hl a _ w s.h with ⟨vs,z⟩ | ⟨vs,z⟩ | ⟨vs,b,z,m,wb⟩
  ·cases z
  ·cases z
  ·cases z
   exact RepL.nocell hl ha t (.ref b) m b rfl wb
 | .ins _ _ ds,_,ha,h,a,e=>fun w=>by
  unfold Rep at h
  refine jA (h) fun a' dx fs r s n t=> ?_
  subst r
  cases e
  rcases hl a _ w s with ⟨vs,z⟩ | ⟨vs,z⟩ | ⟨vs,b,z,m,wb⟩ <;> cases z
 | .xc _,_,_,h,a,e=>fun w=>by
  unfold Rep at h
  refine cy (h) fun a' r s _=> ?_
  subst r
  cases e
  rcases hl a _ w s with ⟨vs,z⟩ | ⟨vs,z⟩ | ⟨vs,b,z,m,wb⟩ <;> cases z
theorem RepL.nocell {K:W.Frag}{G:Hp}{W:Addr→Prop}(hl:∀ b o,W b→G b=some o→isCell W o):∀ {ds:List D} {vs:List V},flats ds=true→RepL K G ds vs→∀ v∈vs,∀ a,v= .ref a→¬ W a
 | [],_,_,h,v,m=>by unfold RepL at h; subst h; cases m
 | _ :: _,_,ha,h,v,m=>by
  unfold RepL at h
  unfold flats at ha
  rw [Bool.and_eq_true] at ha
  refine bA (h) fun w r q a b=> ?_
  subst q
  rcases List.mem_cons.mp m with z | z
  ·subst z; exact Rep.nocell hl ha.1 a
  ·exact RepL.nocell hl ha.2 b v z
end
mutual
theorem Rep.lfree {K:W.Frag}{G:Hp}{W:Addr→Prop}(hl:∀ b o,W b→G b=some o→isCell W o):∀ {d:D} {v:V},L2.flat d=true→Rep K G d v→Rep K (pD W G) d v
 | .non,_,_,h=>by unfold Rep at h ⊢; exact h
 | .bl _,_,_,h=>by unfold Rep at h ⊢; exact h
 | .int _,_,_,h=>by unfold Rep at h ⊢; exact h
 | .str _,_,_,h=>by unfold Rep at h ⊢; exact h
 | .lst ds,_,ha,h=>by unfold L2.flat at ha; cases ha
 | .dct _ _,_,ha,h=>by unfold L2.flat at ha; cases ha
 | .fdc _ _,_,ha,h=>by unfold L2.flat at ha; cases ha
 | .scr _,_,ha,h=>by unfold L2.flat at ha; cases ha
 | .tup ds,v,ha,h=>by
  have nc:=Rep.nocell hl ha h
  unfold Rep at h ⊢
  unfold L2.flat at ha
  refine bA (h) fun a ys r s t=> ?_
  exact (dJ a ys r ⟨qJ (nc a r) s.h⟩ (RepL.lfree hl ha t))
 | .ins _ _ ds,v,ha,h=>by
  have nc:=Rep.nocell hl ha h
  unfold Rep at h ⊢
  unfold L2.flat at ha
  refine jA (h) fun a dx fs r s n t=> ?_
  exact (jT a dx fs r (qJ (nc a r) s) n (RepL.lfree hl ha t))
 | .xc _,v,ha,h=>by
  have nc:=Rep.nocell hl ha h
  unfold Rep at h ⊢
  refine cy (h) fun a r s k=> ?_
  exact (iI a r (qJ (nc a r) s) k)
theorem RepL.lfree {K:W.Frag}{G:Hp}{W:Addr→Prop}(hl:∀ b o,W b→G b=some o→isCell W o):∀ {ds:List D} {vs:List V},flats ds=true→RepL K G ds vs→RepL K (pD W G) ds vs
 | [],_,_,h=>by unfold RepL at h ⊢; exact h
 | _ :: _,_,ha,h=>by
  unfold RepL at h ⊢
  unfold flats at ha
  rw [Bool.and_eq_true] at ha
  refine bA (h) fun v r q a b=> ?_
  exact (dJ v r q (Rep.lfree hl ha.1 a) (RepL.lfree hl ha.2 b))
end
noncomputable def AllW (P:D→V→List Addr→Prop):List D→List V→List Addr→Prop
 | [],vs,S=>vs=[]∧S=[]
 | d :: ds,vs,S=>∃ v r A B,vs=v :: r∧S=A ++ B∧P d v A∧AllW P ds r B
noncomputable def Ow (K:W.Frag)(G H:Hp):Nat→D→V→List Addr→Prop
 | 0,d,v,S=>S=[]∧Rep K G d v
 | n+1,.lst ds,v,S=>∃ a xs T,v= .ref a∧H a=some (.lst xs)∧S=a :: T∧AllW (Ow K G H n) ds xs T
 | n+1,.dct ks ds,v,S=>∃ a kvs T,v= .ref a∧H a=some (.dT kvs)∧kvs.map (·.1)=ks∧S=a :: T∧AllW (Ow K G H n) ds (kvs.map (·.2)) T
 | n+1,.tup ds,v,S=>(L2.flat (.tup ds)=true∧S=[]∧Rep K G (.tup ds) v)∨∃ a xs T,v= .ref a∧H a=some (.tup xs)∧S=a :: T∧T≠[]∧AllW (Ow K G H n) ds xs T
 | _+1,d,v,S=>L2.flat d=true∧S=[]∧Rep K G d v
noncomputable def eI:Nat→D→Bool
 | 0,d=>L2.flat d
 | n+1,.lst ds=>ds.all (eI n)
 | n+1,.dct _ ds=>ds.all (eI n)
 | n+1,.tup ds=>L2.flat (.tup ds) || ds.all (eI n)
 | _+1,d=>L2.flat d
theorem ll:∀ {ds:List D},flats ds=true→∀ {d:D},d∈ds→L2.flat d=true
 | [],_,_,m=>by cases m
 | d0 :: ds,h,d,m=>by
  unfold flats at h
  rw [Bool.and_eq_true] at h
  rcases List.mem_cons.mp m with z | z
  ·subst z; exact h.1
  ·exact ll h.2 z
theorem lB {d:D}(h:L2.flat d=true):∀ {n:Nat},eI n d=true
 | 0=>h
 | n+1=>by
  cases d with
  | lst ds=>unfold L2.flat at h; cases h
  | dct ks ds=>unfold L2.flat at h; cases h
  | tup ds=>unfold eI; rw [h]; rfl
  | _=>unfold eI; exact h
section
variable{K:W.Frag}{G H G' H':Hp}
theorem AllW.mono {P Q:D→V→List Addr→Prop}:∀ {ds:List D} {vs:List V} {S:List Addr},(∀ d v A,d∈ds→(∀ a∈A,a∈S)→P d v A→Q d v A)→AllW P ds vs S→AllW Q ds vs S
 | [],_,_,_,h=>h
 | d :: ds,_,_,k,h=>by
  refine oY (h) fun v r A B e1 e2 h1 h2=> ?_
  subst e2
  exact (oH v r A B e1 rfl (k d v A (List.mem_cons_self ..) (fun a ha=>List.mem_append_left _ ha) h1) (AllW.mono (fun d' v' A' hd ha=>k d' v' A' (cN hd) fun a h=>List.mem_append_right _ (ha a h)) h2))
theorem AllW.length {P:D→V→List Addr→Prop}:∀ {ds:List D} {vs:List V} {S:List Addr},AllW P ds vs S→ds.length=vs.length
 | [],_,_,h=>by rw [h.1]; rfl
 | d :: ds,_,_,h=>by
  refine oY (h) fun v r A B e1 e2 h1 h2=> ?_
  subst e1
  rw [List.length_cons,List.length_cons,AllW.length h2]
theorem AllW.append {P:D→V→List Addr→Prop}:∀ {ds es:List D} {vs ws:List V} {S T:List Addr},AllW P ds vs S→AllW P es ws T→AllW P (ds ++ es) (vs ++ ws) (S ++ T)
 | [],_,_,_,_,_,h,h'=>by rw [h.1,h.2]; exact h'
 | d :: ds,_,_,_,_,_,h,h'=>by
  refine oY (h) fun v r A B e1 e2 h1 h2=> ?_
  subst e1 e2
  exact (oH v _ A _ rfl (List.append_assoc ..) h1 (AllW.append h2 h'))
theorem AllW.one {P:D→V→List Addr→Prop}{d:D}{v:V}{S:List Addr}(h:P d v S):AllW P [d] [v] S:=(Bb v ([]) S ([]) rfl ((List.append_nil _).symm) h rfl rfl)
theorem AllW.at {P:D→V→List Addr→Prop}:∀ {ds:List D} {vs:List V} {S:List Addr} {i:Nat} {d:D},AllW P ds vs S→ds[i]?=some d→
  ∃ v A L R,vs[i]?=some v∧S=L ++ A ++ R∧P d v A∧(∀ Q:D→V→List Addr→Prop,(∀ d v B,(∀ b∈B,b∈L∨b∈R)→P d v B→Q d v B)→∀ d' v' A',Q d' v' A'→AllW Q (ds.set i d') (vs.set i v') (L ++ A' ++ R))
 | [],_,_,_,_,_,e=>by simp at e
 | d0 :: ds,_,_,0,d,h,e=>by
  refine oY (h) fun v r A B e1 e2 h1 h2=> ?_
  subst e1 e2
  simp at e; subst e
  refine (oH v A ([]) B rfl (by simp) h1 (fun Q k d' v' A' hq=>(oH v' r A' B rfl (by simp) hq (AllW.mono (fun d v B' _ hb hp=>k d v B' (fun b hb'=> .inr (hb b hb')) hp) h2))))
 | d0 :: ds,_,_,i+1,d,h,e=>by
  refine oY (h) fun v r A B e1 e2 h1 h2=> ?_
  subst e1 e2
  refine oY (AllW.at (i:=i) h2 (by simpa using e)) fun w A2 L R g1 g2 g3 g4=> ?_
  refine (oH w A2 (A ++ L) R (by simpa using g1) (by rw [g2]; simp only [List.append_assoc]) g3 (fun Q k d' v' A' hq=>(oH v (r.set i v') A (L ++ A' ++ R) rfl (by simp only [List.append_assoc]) (k d0 v A (fun b hb=> .inl (List.mem_append_left _ hb)) h1) (g4 Q (fun d v B hb hp=>k d v B (fun b hb'=>(hb b hb').imp (List.mem_append_right _) id) hp) d' v' A' hq))))
theorem Ow.mono (sg:Same G G'):∀ {n:Nat} {d:D} {v:V} {S:List Addr},(∀ a∈S,∀ o,H a=some o→H' a=some o)→Ow K G H n d v S→Ow K G' H' n d v S
 | 0,_,_,_,_,h=>⟨h.1,h.2.mono sg⟩
 | n+1,d,_,_,k,h=>by
  cases d with
  | lst ds=>
   refine jA (h) fun a xs T e1 e2 e3 h1=> ?_
   subst e3
   exact (jT a xs T e1 (k a (List.mem_cons_self ..) _ e2) rfl (h1.mono fun d v A _ hA=>Ow.mono sg fun b hb o e=>k b (cN (hA b hb)) o e))
  | dct ks ds=>
   refine iN (h) fun a xs T e1 e2 e4 e3 h1=> ?_
   subst e3
   exact (oJ a xs T e1 (k a (List.mem_cons_self ..) _ e2) e4 rfl (h1.mono fun d v A _ hA=>Ow.mono sg fun b hb o e=>k b (cN (hA b hb)) o e))
  | tup ds=>
   rcases h with h | ⟨a,xs,T,e1,e2,e3,e5,h1⟩
   ·exact .inl ⟨h.1,h.2.1,h.2.2.mono sg⟩
   ·subst e3
    exact .inr (oJ a xs T e1 (k a (List.mem_cons_self ..) _ e2) rfl e5 (h1.mono fun d v A _ hA=>Ow.mono sg fun b hb o e=>k b (cN (hA b hb)) o e))
  | _=>exact ⟨h.1,h.2.1,h.2.2.mono sg⟩
theorem AllW.rep {P:D→V→List Addr→Prop}{V':Hp}:∀ {ds:List D} {vs:List V} {S:List Addr},(∀ d v A,(∀ a∈A,a∈S)→P d v A→Rep K V' d v)→AllW P ds vs S→RepL K V' ds vs
 | [],_,_,_,h=>by rw [h.1]; exact .nil
 | d :: ds,_,_,k,h=>by
  refine oY (h) fun v r A B e1 e2 h1 h2=> ?_
  subst e1 e2
  exact .cons (k d v A (fun a ha=>List.mem_append_left _ ha) h1) (AllW.rep (fun d' v' A' ha=>k d' v' A' fun a h=>List.mem_append_right _ (ha a h)) h2)
theorem Ow.rep {V':Hp}(sg:Same G V'):∀ {n:Nat} {d:D} {v:V} {S:List Addr},(∀ a∈S,∀ o,H a=some o→V' a=some o)→Ow K G H n d v S→Rep K V' d v
 | 0,_,_,_,_,h=>h.2.mono sg
 | n+1,d,_,_,k,h=>by
  cases d with
  | lst ds=>
   refine jA (h) fun a xs T e1 e2 e3 h1=> ?_
   subst e3
   exact rep_lst.mpr (dJ a xs e1 (.of (k a (List.mem_cons_self ..) _ e2)) (h1.rep fun d v A hA=>Ow.rep sg fun b hb o e=>k b (cN (hA b hb)) o e))
  | dct ks ds=>
   refine iN (h) fun a xs T e1 e2 e4 e3 h1=> ?_
   subst e3
   exact rep_dct.mpr (lv a xs e1 (.inl (k a (List.mem_cons_self ..) _ e2)) e4 (h1.rep fun d v A hA=>Ow.rep sg fun b hb o e=>k b (cN (hA b hb)) o e))
  | tup ds=>
   rcases h with h | ⟨a,xs,T,e1,e2,e3,e5,h1⟩
   ·exact h.2.2.mono sg
   ·subst e3
    exact rep_tup.mpr (dJ a xs e1 (.of (k a (List.mem_cons_self ..) _ e2)) (h1.rep fun d v A hA=>Ow.rep sg fun b hb o e=>k b (cN (hA b hb)) o e))
  | _=>exact h.2.2.mono sg
theorem AllW.cell {P:D→V→List Addr→Prop}{C:Addr→Prop}:∀ {ds:List D} {vs:List V} {S:List Addr},(∀ d v A,P d v A→∀ a∈A,C a)→AllW P ds vs S→∀ a∈S,C a
 | [],_,_,_,h,a,ha=>by rw [h.2] at ha; cases ha
 | d :: ds,_,_,k,h,a,ha=>by
  refine oY (h) fun v r A B e1 e2 h1 h2=> ?_
  subst e2
  rcases List.mem_append.mp ha with z | z
  ·exact k d v A h1 a z
  ·exact AllW.cell k h2 a z
theorem AllW.hasC {P:D→V→List Addr→Prop}(hP:∀ d v A,P d v A→A≠[]→∃ b,v= .ref b∧b∈A):∀ {ds:List D} {vs:List V} {S:List Addr},AllW P ds vs S→S≠[]→∃ b,V.ref b∈vs∧b∈S
 | [],_,_,h,n=>absurd h.2 n
 | d :: ds,_,_,h,n=>by
  refine oY (h) fun v r A B e1 e2 h1 h2=> ?_
  subst e1 e2
  by_cases z:A=[]
  ·obtain ⟨b,hb,hb'⟩:=AllW.hasC hP h2 (fun y=>n (by rw [z,y]; rfl))
   exact ⟨b,cN hb,List.mem_append_right _ hb'⟩
  ·obtain ⟨b,e,hb⟩:=hP d v A h1 z
   exact ⟨b,by rw [e]; exact List.mem_cons_self ..,List.mem_append_left _ hb⟩
theorem Ow.head:∀ {n:Nat} {d:D} {v:V} {S:List Addr},Ow K G H n d v S→S≠[]→∃ b,v= .ref b∧b∈S
 | 0,_,_,_,h,n=>absurd h.1 n
 | n+1,d,_,_,h,hn=>by
  cases d with
  | lst ds=>refine jA (h) fun a xs T e1 e2 e3 h1=> ?_; exact ⟨a,e1,by rw [e3]; exact List.mem_cons_self ..⟩
  | dct ks ds=>refine iN (h) fun a xs T e1 e2 e4 e3 h1=> ?_; exact ⟨a,e1,by rw [e3]; exact List.mem_cons_self ..⟩
  | tup ds=>
   rcases h with h | ⟨a,xs,T,e1,e2,e3,e5,h1⟩
   ·exact absurd h.2.1 hn
   ·exact ⟨a,e1,by rw [e3]; exact List.mem_cons_self ..⟩
  | _=>exact absurd h.2.1 hn
theorem AllW.cell2 {P:D→V→List Addr→Prop}{C:(Addr→Prop)→Addr→Prop}(mo:∀ S T a,(∀ b,S b→T b)→C S a→C T a):∀ {ds:List D} {vs:List V} {S:List Addr},(∀ d v A,P d v A→∀ a∈A,C (· ∈A) a)→AllW P ds vs S→∀ a∈S,C (· ∈S) a
 | [],_,_,_,h,a,ha=>by rw [h.2] at ha; cases ha
 | d :: ds,_,_,k,h,a,ha=>by
  refine oY (h) fun v r A B e1 e2 h1 h2=> ?_
  subst e2
  rcases List.mem_append.mp ha with z | z
  ·exact mo _ _ a (fun b hb=>List.mem_append_left _ hb) (k d v A h1 a z)
  ·exact mo _ _ a (fun b hb=>List.mem_append_right _ hb) (AllW.cell2 mo k h2 a z)
theorem Ow.cell:∀ {n:Nat} {d:D} {v:V} {S:List Addr},Ow K G H n d v S→∀ a∈S,∃ o,H a=some o∧isCell (· ∈S) o
 | 0,_,_,_,h,a,ha=>by rw [h.1] at ha; cases ha
 | n+1,d,_,_,h,b,hb=>by
  have mo:∀ (S T:Addr→Prop) (a:Addr),(∀ b,S b→T b)→(∃ o,H a=some o∧isCell S o)→∃ o,H a=some o∧isCell T o:=fun S T a k hZ134=>(by obtain ⟨o,e,c⟩:=hZ134; exact ⟨o,e,c.mono k⟩)
  have up:∀ {x:Addr} {T:List Addr},(∃ o,H b=some o∧isCell (· ∈T) o)→∃ o,H b=some o∧isCell (· ∈x :: T) o:=fun hZ135=>(by obtain ⟨o,e,c⟩:=hZ135; exact ⟨o,e,c.mono fun a ha=>cN ha⟩)
  cases d with
  | lst ds=>
   refine jA (h) fun a xs T e1 e2 e3 h1=> ?_
   subst e3
   rcases List.mem_cons.mp hb with z | z
   ·subst z; exact ⟨_,e2,.inl ⟨xs,rfl⟩⟩
   ·exact up (h1.cell2 (C:=fun S a=>∃ o,H a=some o∧isCell S o) mo (fun _ _ _ q=>Ow.cell q) b z)
  | dct ks ds=>
   refine iN (h) fun a xs T e1 e2 e4 e3 h1=> ?_
   subst e3
   rcases List.mem_cons.mp hb with z | z
   ·subst z; exact ⟨_,e2,.inr (.inl ⟨xs,rfl⟩)⟩
   ·exact up (h1.cell2 (C:=fun S a=>∃ o,H a=some o∧isCell S o) mo (fun _ _ _ q=>Ow.cell q) b z)
  | tup ds=>
   rcases h with h | ⟨a,xs,T,e1,e2,e3,e5,h1⟩
   ·rw [h.2.1] at hb; cases hb
   ·subst e3
    rcases List.mem_cons.mp hb with z | z
    ·subst z
     obtain ⟨c,hc,hc'⟩:=h1.hasC (fun _ _ _ q=>Ow.head q) e5
     exact ⟨_,e2,.inr (.inr (dJ xs c rfl hc (cN hc')))⟩
    ·exact up (h1.cell2 (C:=fun S a=>∃ o,H a=some o∧isCell S o) mo (fun _ _ _ q=>Ow.cell q) b z)
  | _=>rw [h.2.1] at hb; cases hb
theorem Ow.hide {W:Addr→Prop}(hl:∀ b o,W b→G b=some o→isCell W o):∀ {n:Nat} {d:D} {v:V} {S:List Addr},eI n d=true→Ow K G H n d v S→Ow K (pD W G) H n d v S
 | 0,_,_,_,hf,h=>⟨h.1,Rep.lfree hl hf h.2⟩
 | n+1,d,_,_,hf,h=>by
  cases d with
  | lst ds=>
   refine jA (h) fun a xs T e1 e2 e3 h1=> ?_
   unfold eI at hf
   exact (jT a xs T e1 e2 e3 (h1.mono fun d v A hd _=>Ow.hide hl (List.all_eq_true.mp hf d hd)))
  | dct ks ds=>
   refine iN (h) fun a xs T e1 e2 e4 e3 h1=> ?_
   unfold eI at hf
   exact (oJ a xs T e1 e2 e4 e3 (h1.mono fun d v A hd _=>Ow.hide hl (List.all_eq_true.mp hf d hd)))
  | tup ds=>
   rcases h with h | ⟨a,xs,T,e1,e2,e3,e5,h1⟩
   ·exact .inl ⟨h.1,h.2.1,Rep.lfree hl h.1 h.2.2⟩
   ·refine .inr (oJ a xs T e1 e2 e3 e5 (h1.mono fun d v A hd _=>Ow.hide hl ?_))
    unfold eI at hf
    rw [Bool.or_eq_true] at hf
    rcases hf with z | z
    ·unfold L2.flat at z; exact lB (ll z hd)
    ·exact List.all_eq_true.mp z d hd
  | _=>exact ⟨h.1,h.2.1,Rep.lfree hl h.1 h.2.2⟩
end
noncomputable def qK (fp:Nat→List Addr)(a:Addr):Prop:=∃ i,a∈fp i
noncomputable def oV (fp:Nat→List Addr)(G H:Hp):Hp:=fun b=> @ite _ (qK fp b) (Classical.propDecidable _) (H b) (G b)
structure Rw (K:W.Frag)(μ:List Nat)(Ge B G H:Hp)(σ:St)(ρ:DS)(fp:Nat→List Addr):Prop where
 gh:Same G H
 eg:Same Ge G
 bh:Same B H
 nw:∀ b o,G b=some o→Ge b=some o∨B b=none∨oK o
 gf:∀ i a,a∈fp i→G a=none
 ob:∀ i a,a∈fp i→B a=none
 oc:∀ i a,a∈fp i→∃ o,H a=some o∧isCell (· ∈fp i) o
 nd:∀ i,(fp i).Nodup
 dj:∀ i j a,a∈fp i→a∈fp j→i=j
 sl:∀ i d,ρ[i]?=some (some d)→∃ v,σ[i]?=some (some v)∧Ow K G H (μ.getD i 0) d v (fp i)
section
variable{K:W.Frag}{μ:List Nat}{Ge B G H G' H':Hp}{σ:St}{ρ:DS}{fp:Nat→List Addr}
theorem zT {b:Addr}(h:qK fp b):oV fp G H b=H b:=by unfold oV; rw [if_pos h]
theorem mW {b:Addr}(h:¬ qK fp b):oV fp G H b=G b:=by unfold oV; rw [if_neg h]
theorem Rw.vh (R:Rw K μ Ge B G H σ ρ fp):Same (oV fp G H) H:=fun b o e=>by
 by_cases q:qK fp b
 ·rw [zT q] at e; exact e
 ·rw [mW q] at e; exact R.gh b o e
theorem Rw.gv (R:Rw K μ Ge B G H σ ρ fp):Same G (oV fp G H):=fun b o e=>by
 by_cases q:qK fp b
 ·obtain ⟨i,hi⟩:=q; rw [R.gf i b hi] at e; cases e
 ·rw [mW q]; exact e
theorem Rw.ro (R:Rw K μ Ge B G H σ ρ fp):Ro K (oV fp G H) σ ρ:=fun i d e=>by
 obtain ⟨v,hv,h⟩:=R.sl i d e
 exact ⟨v,hv,h.rep R.gv fun a ha o eo=>by rw [zT ⟨i,ha⟩]; exact eo⟩
noncomputable def fm (μ:List Nat)(ρ:DS):DS:=ρ.mapIdx fun i o=>if μ.getD i 0=0 then o else none
theorem Rw.rof (R:Rw K μ Ge B G H σ ρ fp):Ro K G σ (fm μ ρ):=fun i d e=>by
 unfold fm at e
 rw [List.getElem?_mapIdx] at e
 cases q:ρ[i]? with
 | none=>rw [q] at e; cases e
 | some o=>
  rw [q] at e
  simp only [Option.map_some,Option.some.injEq] at e
  by_cases m:μ.getD i 0=0
  ·rw [if_pos m] at e
   subst e
   obtain ⟨v,hv,h⟩:=R.sl i d q
   rw [m] at h
   exact ⟨v,hv,h.2⟩
  ·rw [if_neg m] at e; cases e
theorem Rw.gg (R:Rw K μ Ge B G H σ ρ fp)(x:Ext (oV fp G H) H G' H'):Same G (pD (qK fp) G'):=fun b o e=>by
 by_cases q:qK fp b
 ·obtain ⟨i,hi⟩:=q; rw [R.gf i b hi] at e; cases e
 ·exact qJ q (x.gg b o (R.gv b o e))
theorem Rw.grow (R:Rw K μ Ge B G H σ ρ fp)(x:Ext (oV fp G H) H G' H'):Rw K μ Ge B (pD (qK fp) G') H' σ ρ fp:=by
 refine ⟨fun b o e=>x.gh b o (kx e).2,R.eg.trans (R.gg x),R.bh.trans x.hh,fun b o e=> ?_,fun i a e=>DN ⟨i,e⟩,R.ob,fun i a e=> ?_,R.nd,R.dj,fun i d e=> ?_⟩
 ·obtain ⟨n,e1⟩:=kx e
  rcases x.nw b o e1 with z | z
  ·rw [mW n] at z; exact R.nw b o z
  ·exact .inr (z.imp R.bh.free id)
 ·obtain ⟨o,h1,h2⟩:=R.oc i a e
  exact ⟨o,x.hh _ _ h1,h2⟩
 ·obtain ⟨v,hv,h⟩:=R.sl i d e
  exact ⟨v,hv,h.mono (R.gg x) fun a _ o ho=>x.hh a o ho⟩
theorem Rw.growF (R:Rw K μ Ge B G H σ ρ fp)(x:Ext G H G' H'):Rw K μ Ge B G' H' σ ρ fp:=by
 refine ⟨x.gh,R.eg.trans x.gg,R.bh.trans x.hh,fun b o e=> ?_,fun i a e=> ?_,R.ob,fun i a e=> ?_,R.nd,R.dj,fun i d e=> ?_⟩
 ·rcases x.nw b o e with z | z
  ·exact R.nw b o z
  ·exact .inr (z.imp R.bh.free id)
 ·cases z:G' a with
  | none=>rfl
  | some o=>
   rcases x.nw a o z with y | y
   ·rw [R.gf i a e] at y; cases y
   ·obtain ⟨o',h,hc⟩:=R.oc i a e
    rcases y with y | y
    ·rw [y] at h; cases h
    ·have h2:=x.gh a o z
     rw [x.hh a _ h] at h2
     cases h2
     exact (hc.nokey y).elim
 ·obtain ⟨o,h1,h2⟩:=R.oc i a e
  exact ⟨o,x.hh _ _ h1,h2⟩
 ·obtain ⟨v,hv,h⟩:=R.sl i d e
  exact ⟨v,hv,h.mono x.gg fun a _ o ho=>x.hh a o ho⟩
theorem Rw.cells (R:Rw K μ Ge B G H σ ρ fp)(x:Ext (oV fp G H) H G' H'):∀ b o,qK fp b→G' b=some o→isCell (qK fp) o:=fun b o ⟨i,hi⟩ e=>by
 obtain ⟨o',h1,h2⟩:=R.oc i b hi
 have h3:=x.gh b o e
 rw [x.hh b _ h1] at h3
 cases h3
 exact h2.mono fun a ha=>⟨i,ha⟩
theorem Rw.put {i:Nat}{d:D}{v:V}{S:List Addr}(R:Rw K μ Ge B G H σ ρ fp)(hi:i < σ.length)(h:Ow K G H (μ.getD i 0) d v S)(nd:S.Nodup)(hS:∀ a∈S,G a=none∧B a=none)(hd:∀ j,j≠i→∀ a∈S,a∉fp j):Rw K μ Ge B G H (σ.set i (some v)) (ρ.set i (some d)) (fun j=>if j=i then S else fp j):=by
 refine ⟨R.gh,R.eg,R.bh,R.nw,fun j a e=> ?_,fun j a e=> ?_,fun j a e=> ?_,fun j=> ?_,fun j k a ej ek=> ?_,fun j e q=> ?_⟩
 ·split at e
  ·exact (hS a e).1
  ·exact R.gf j a e
 ·split at e
  ·exact (hS a e).2
  ·exact R.ob j a e
 ·by_cases hj:j=i
  ·simp only [if_pos hj] at e ⊢; exact h.cell a e
  ·simp only [if_neg hj] at e ⊢; exact R.oc j a e
 ·split
  ·exact nd
  ·exact R.nd j
 ·skip
  split at ej
  ·rename_i z1
   split at ek
   ·rename_i z2; rw [z1,z2]
   ·rename_i z2; exact absurd ek (hd k z2 a ej)
  ·rename_i z1
   split at ek
   ·rename_i z2; exact absurd ej (hd j z1 a ek)
   ·exact R.dj j k a ej ek
 ·by_cases hj:j=i
  ·subst hj
   rw [List.getElem?_set_self'] at q
   cases z:ρ[j]? with
   | none=>rw [z] at q; cases q
   | some o=>
    rw [z] at q; cases q
    rw [if_pos rfl]
    exact ⟨v,List.getElem?_set_self hi,h⟩
  ·rw [List.getElem?_set_ne (Ne.symm hj)] at q ⊢
   rw [if_neg hj]
   exact R.sl j e q
theorem Rw.drop {i:Nat}(R:Rw K μ Ge B G H σ ρ fp):Rw K μ Ge B G H σ (ρ.set i none) (fun j=>if j=i then [] else fp j):=by
 refine ⟨R.gh,R.eg,R.bh,R.nw,fun j a e=> ?_,fun j a e=> ?_,fun j a e=> ?_,fun j=> ?_,fun j k a ej ek=> ?_,fun j e q=> ?_⟩
 ·split at e
  ·cases e
  ·exact R.gf j a e
 ·split at e
  ·cases e
  ·exact R.ob j a e
 ·by_cases hj:j=i
  ·simp only [if_pos hj] at e; cases e
  ·simp only [if_neg hj] at e ⊢; exact R.oc j a e
 ·split
  ·exact List.nodup_nil
  ·exact R.nd j
 ·skip
  split at ej
  ·cases ej
  ·split at ek
   ·cases ek
   ·exact R.dj j k a ej ek
 ·by_cases hj:j=i
  ·subst hj
   rw [List.getElem?_set_self'] at q
   cases z:ρ[j]? with
   | none=>rw [z] at q; cases q
   | some o=>rw [z] at q; cases q
  ·rw [List.getElem?_set_ne (Ne.symm hj)] at q
   rw [if_neg hj]
   exact R.sl j e q
theorem Rw.write {i:Nat}{a:Addr}{ob:HO}{d:D}{v:V}{S:List Addr}(R:Rw K μ Ge B G H σ ρ fp)(ha:a∈fp i)(hv:σ[i]?=some (some v))(h:Ow K G (br H a ob) (μ.getD i 0) d v S)(nd:S.Nodup)(hS:∀ b∈S,G b=none∧B b=none)(hd:∀ j,j≠i→∀ b∈S,b∉fp j):Rw K μ Ge B G (br H a ob) σ (ρ.set i (some d)) (fun j=>if j=i then S else fp j):=by
 have nG:∀ {b:Addr} {o:HO},G b=some o→b≠a:=fun e z=>by rw [z,R.gf i a ha] at e; cases e
 have nB:∀ {b:Addr} {o:HO},B b=some o→b≠a:=fun e z=>by rw [z,R.ob i a ha] at e; cases e
 have nj:∀ {j:Nat} {b:Addr},j≠i→b∈fp j→b≠a:=fun N hb z=>by subst z; exact N (R.dj _ i _ hb ha)
 refine ⟨fun b o e=>by rw [al (nG e)]; exact R.gh b o e,R.eg,fun b o e=>by rw [al (nB e)]; exact R.bh b o e,R.nw,fun j b e=> ?_,fun j b e=> ?_,fun j b e=> ?_,fun j=> ?_,fun j k b ej ek=> ?_,fun j e q=> ?_⟩
 ·split at e
  ·exact (hS b e).1
  ·exact R.gf j b e
 ·split at e
  ·exact (hS b e).2
  ·exact R.ob j b e
 ·by_cases N:j=i
  ·simp only [if_pos N] at e ⊢; exact h.cell b e
  ·simp only [if_neg N] at e ⊢; rw [al (nj N e)]; exact R.oc j b e
 ·split
  ·exact nd
  ·exact R.nd j
 ·skip
  split at ej
  ·rename_i z1
   split at ek
   ·rename_i z2; rw [z1,z2]
   ·rename_i z2; exact absurd ek (hd k z2 b ej)
  ·rename_i z1
   split at ek
   ·rename_i z2; exact absurd ej (hd j z1 b ek)
   ·exact R.dj j k b ej ek
 ·by_cases N:j=i
  ·subst N
   rw [List.getElem?_set_self'] at q
   cases z:ρ[j]? with
   | none=>rw [z] at q; cases q
   | some o=>
    rw [z] at q; cases q
    rw [if_pos rfl]
    exact ⟨v,hv,h⟩
  ·rw [List.getElem?_set_ne (Ne.symm N)] at q
   rw [if_neg N]
   obtain ⟨w,hw,hh⟩:=R.sl j e q
   exact ⟨w,hw,hh.mono (.refl _) fun b hb o eo=>by rw [al (nj N hb)]; exact eo⟩
end
noncomputable def New (H G:Hp)(S:List Addr):Prop:=S.Nodup∧∀ a∈S,H a=none∧G a=none
theorem New.nil {H G:Hp}:New H G []:=⟨List.nodup_nil,fun a h=>by cases h⟩
inductive NQ (X:Cx)(pins:List (Addr×Obj))(σ:St)(G H:Hp)(n:Nat)(o:Res D)(u:Value)(s':Shared):Prop
 | mk (d:D) (e:o= .ok d) (v:V) (G' H':Hp) (S:List Addr) (i:Inv X pins σ H' s') (r:RelV v u) (x:Ext G H G' H') (w:Ow X.K G' H' n d v S) (nw:New H G' S)
inductive ZQ (X:Cx)(pins:List (Addr×Obj))(σ:St)(μ:List Nat)(Ge B G H:Hp)(ρ:DS)(fp:Nat→List Addr)(n:Nat)(o:Res D)(u:Value)(s':Shared):Prop
 | mk (d:D) (e:o= .ok d) (v:V) (G' H':Hp) (S:List Addr) (i:Inv X pins σ H' s') (r:RelV v u) (R:Rw X.K μ Ge B G' H' σ ρ fp) (sg:Same G G') (sh:Same H H') (w:Ow X.K G' H' n d v S) (nw:New H G' S)
noncomputable def PN (X:Cx)(E:XK)(n:Nat)(e:Expr)(f:DS→Res D):Prop:=
 ∀ (pins:List (Addr×Obj)) (s:Shared) (σ:St) (G H:Hp) (ρ:DS),Inv X pins σ H s→Same G H→Ro X.K G σ ρ→OkR E H (f ρ)→
  wpAny (model X.prog X.w) X.A (eval e X.env) (NQ X pins σ G H n (f ρ)) X.xe s
theorem Ext.freeze {K:W.Frag}{G H G' H':Hp}{n:Nat}{d:D}{v:V}{S:List Addr}(hs:Same G H)(x:Ext G H G' H')(w:New H G' S)(h:Ow K G' H' n d v S):∃ G2,Ext G H G2 H'∧Same G' G2∧Rep K G2 d v:=by
 have dec:∀ b,Decidable (b∈S):=fun b=>Classical.propDecidable _
 refine (iI (fun b=>if b∈S then H' b else G' b) ⟨x.hh,fun b o e=> ?_,fun b o e=> ?_,fun b o e=> ?_⟩ (fun b o e=> ?_) (h.rep (fun b o e=> ?_) fun a ha o e=> ?_))
 ·by_cases q:b∈S
  ·have:=(w.2 b q).1; rw [hs b o e] at this; cases this
  ·show (if b∈S then H' b else G' b)=some o
   rw [if_neg q]; exact x.gg b o e
 ·have e:(if b∈S then H' b else G' b)=some o:=e
  by_cases q:b∈S
  ·rw [if_pos q] at e; exact e
  ·rw [if_neg q] at e; exact x.gh b o e
 ·have e:(if b∈S then H' b else G' b)=some o:=e
  by_cases q:b∈S
  ·exact .inr (.inl (w.2 b q).1)
  ·rw [if_neg q] at e; exact x.nw b o e
 ·show (if b∈S then H' b else G' b)=some o
  by_cases q:b∈S
  ·rw [(w.2 b q).2] at e; cases e
  ·rw [if_neg q]; exact e
 ·show (if b∈S then H' b else G' b)=some o
  by_cases q:b∈S
  ·rw [(w.2 b q).2] at e; cases e
  ·rw [if_neg q]; exact e
 ·show (if a∈S then H' a else G' a)=some o
  rw [if_pos ha]; exact e
section
variable{X:Cx}{E:XK}{μ:List Nat}
theorem PN.of {e:Expr}{f:DS→Res D}(h:PD X E e f):PN X E 0 e f:=fun pins s σ G H ρ I hs hr ho=>
 aT (h pins s σ G H ρ I hs hr ho) fun u s' hZ136=>(by obtain ⟨d,e,v,G',H',I',rv,x,rp⟩:=hZ136; exact ⟨d,e,v,G',H',[],I',rv,x,⟨rfl,rp⟩,.nil⟩)
theorem PN.pd {n:Nat}{e:Expr}{f:DS→Res D}(h:PN X E n e f):PD X E e f:=fun pins s σ G H ρ I hs hr ho=>
 aT (h pins s σ G H ρ I hs hr ho) fun u s' hZ137=>by
  obtain ⟨d,e,v,G',H',S,I',rv,x,o,w⟩:=hZ137
  refine cy (x.freeze hs w o) fun G2 x2 _ rp=> ?_
  exact ⟨d,e,v,G2,H',I',rv,x2,rp⟩
noncomputable def PZ (X:Cx)(E:XK)(μ:List Nat)(n:Nat)(e:Expr)(f:DS→Res D):Prop:=
 ∀ (pins:List (Addr×Obj)) (s:Shared) (σ:St) (Ge B G H:Hp) (ρ:DS) (fp:Nat→List Addr),Inv X pins σ H s→Rw X.K μ Ge B G H σ ρ fp→OkR E B (f ρ)→
  wpAny (model X.prog X.w) X.A (eval e X.env) (ZQ X pins σ μ Ge B G H ρ fp n (f ρ)) X.xe s
inductive tZ (K:W.Frag)(E:XK)(μ:List Nat)(n:Nat)(f:DS→Res D)(σ:St)(H:Hp)(Q:VK):Prop
 | mk (Ge B G:Hp) (ρ:DS) (fp:Nat→List Addr) (R:Rw K μ Ge B G H σ ρ fp) (o:OkR E B (f ρ)) (k:∀ d,f ρ= .ok d→∀ v G' H' S,Rw K μ Ge B G' H' σ ρ fp→Same G G'→Same H H'→Ow K G' H' n d v S→New H G' S→Q v H')
theorem tu {n:Nat}{e:Expr}{f:DS→Res D}(h:PZ X E μ n e f):PE X e (tZ X.K E μ n f):=by
 intro pins s σ H Q I hZ12
 obtain ⟨Ge,B,G,ρ,fp,R,ho,k⟩:=hZ12
 exact aT (h pins s σ Ge B G H ρ fp I R ho) fun u s' hZ138=>(by obtain ⟨d,e,v,G',H',S,I',rv,R',sg,sh,o,w⟩:=hZ138; exact ⟨v,H',I',rv,k d e v G' H' S R' sg sh o w⟩)
noncomputable def rK (n:Nat)(f:DS→Res D):DS→Res D:=fun ρ=>(f ρ).bind fun d=>if eI n d=true then .ok d else .bad
theorem eO {n:Nat}{e:Expr}{f:DS→Res D}(h:PN X E n e f):PZ X E μ n e (rK n f):=by
 intro pins s σ Ge B G H ρ fp I R ho
 refine aT (h pins s σ (oV fp G H) H ρ I R.vh R.ro (ho.fst.le R.bh)) fun u s' hZ139=> ?_
 obtain ⟨d,e,v,G',H',S,I',rv,x,o,w⟩:=hZ139
 have k:=ho.snd e (Same.refl B)
 by_cases hl:eI n d=true
 ·exact ⟨d,au e (if_pos hl),v,pD (qK fp) G',H',S,I',rv,R.grow x,R.gg x,x.hh,o.hide (R.cells x) hl,w.1,fun a ha=>⟨(w.2 a ha).1,by
   cases q:pD (qK fp) G' a with
   | none=>rfl
   | some o=>have:=(kx q).2; rw [(w.2 a ha).2] at this; cases this⟩⟩
 ·rw [if_neg hl] at k; exact k.elim
noncomputable def bZ (μ:List Nat)(f:DS→Res D):DS→Res D:=fun ρ=>f (fm μ ρ)
theorem ay {n:Nat}{e:Expr}{f:DS→Res D}(h:PN X E n e f):PZ X E μ n e (bZ μ f):=by
 intro pins s σ Ge B G H ρ fp I R ho
 exact aT (h pins s σ G H (fm μ ρ) I R.gh R.rof (ho.le R.bh)) fun u s' hZ140=>(by obtain ⟨d,e,v,G',H',S,I',rv,x,o,w⟩:=hZ140; exact ⟨d,e,v,G',H',S,I',rv,R.growF x,x.gg,x.hh,o,w⟩)
inductive SMn (X:Cx)(μ:List Nat)(Ge B G:Hp)(pins:List (Addr×Obj))(P:DS→Prop)(s':Shared):Prop
 | mk (ρ':DS) (σ':St) (G' H':Hp) (fp':Nat→List Addr) (e:P ρ') (i:Inv X pins σ' H' s') (R:Rw X.K μ Ge B G' H' σ' ρ' fp') (sg:Same G G')
inductive SMr (X:Cx)(r:Nat)(Ge B:Hp)(pins:List (Addr×Obj))(o:Out)(u:Value)(s':Shared):Prop
 | mk (d:D) (v:V) (σ':St) (G' H':Hp) (S:List Addr) (e:o= .rt d) (i:Inv X pins σ' H' s') (rv:RelV v u) (x:Ext Ge B G' H') (w:Ow X.K G' H' r d v S) (nw:New B G' S)
noncomputable def SM (X:Cx)(μ:List Nat)(r:Nat)(Ge B G:Hp)(pins:List (Addr×Obj))(o:Out)(fl:Flow)(s':Shared):Prop:=
 match fl with
 | .next=>SMn X μ Ge B G pins (o= .nx ·) s'
 | .brk=>SMn X μ Ge B G pins (o= .bk ·) s'
 | .cont=>SMn X μ Ge B G pins (o= .ct ·) s'
 | .ret u=>SMr X r Ge B pins o u s'
noncomputable def mD (X:Cx)(E:XK)(μ:List Nat)(r:Nat)(st:Stmt)(F:DS→Out):Prop:=
 ∀ (pins:List (Addr×Obj)) (s:Shared) (σ:St) (Ge B G H:Hp) (ρ:DS) (fp:Nat→List Addr),Inv X pins σ H s→Rw X.K μ Ge B G H σ ρ fp→OkO E B (F ρ)→
  wpAny (model X.prog X.w) X.A (exec st X.env) (SM X μ r Ge B G pins (F ρ)) X.xe s
noncomputable def ud (X:Cx)(E:XK)(μ:List Nat)(r:Nat)(sts:List Stmt)(F:DS→Out):Prop:=
 ∀ (pins:List (Addr×Obj)) (s:Shared) (σ:St) (Ge B G H:Hp) (ρ:DS) (fp:Nat→List Addr),Inv X pins σ H s→Rw X.K μ Ge B G H σ ρ fp→OkO E B (F ρ)→
  wpAny (model X.prog X.w) X.A (execs sts X.env) (SM X μ r Ge B G pins (F ρ)) X.xe s
variable{r:Nat}
theorem SM.le {Ge B G G1:Hp}{pins:List (Addr×Obj)}{o:Out}{fl:Flow}{s':Shared}(s:Same G G1)(h:SM X μ r Ge B G1 pins o fl s'):SM X μ r Ge B G pins o fl s':=by
 cases fl with
 | next=>obtain ⟨O,v,G',H',P,e,I,R,t⟩:=h; exact ⟨O,v,G',H',P,e,I,R,s.trans t⟩
 | brk=>obtain ⟨O,v,G',H',P,e,I,R,t⟩:=h; exact ⟨O,v,G',H',P,e,I,R,s.trans t⟩
 | cont=>obtain ⟨O,v,G',H',P,e,I,R,t⟩:=h; exact ⟨O,v,G',H',P,e,I,R,s.trans t⟩
 | ret u=>exact h
theorem bi:ud X E μ r [] (fun ρ=> .nx ρ):=fun _ _ σ Ge B G H ρ fp I R _=>wpAny_execs_nil ⟨ρ,σ,G,H,fp,rfl,I,R,.refl _⟩
theorem ah {st:Stmt}{rest:List Stmt}{F R:DS→Out}(h1:mD X E μ r st F)(h2:ud X E μ r rest R):ud X E μ r (st :: rest) (ax F R):=by
 intro pins s σ Ge B G H ρ fp I W ho
 refine wpAny_execs_cons (aT (h1 pins s σ Ge B G H ρ fp I W ho.fst) fun fl s1 q=> ?_)
 cases fl with
 | next=>
  obtain ⟨O,t,G',H',P,e,I',W',sg⟩:=q
  refine aT (h2 pins s1 t Ge B G' H' O P I' W' (ho.snd e (.refl _))) fun fl2 s2 q2=> ?_
  have e2:ax F R ρ=R O:=by unfold ax; rw [e]; rfl
  rw [e2]
  exact q2.le sg
 | brk=>obtain ⟨O,t,G',H',P,e,q,q1,q2⟩:=q; exact ⟨O,t,G',H',P,by unfold ax; rw [e]; rfl,q,q1,q2⟩
 | cont=>obtain ⟨O,t,G',H',P,e,q,q1,q2⟩:=q; exact ⟨O,t,G',H',P,by unfold ax; rw [e]; rfl,q,q1,q2⟩
 | ret u=>obtain ⟨d,v,t,G',H',S,e,q,q1,q2,q3,q4⟩:=q; exact ⟨d,v,t,G',H',S,by unfold ax; rw [e]; rfl,q,q1,q2,q3,q4⟩
theorem ak {st:Stmt}{F:DS→Out}(h1:mD X E μ r st F):ud X E μ r [st] F:=by
 intro pins s σ Ge B G H ρ fp I W ho
 refine wpAny_execs_cons (aT (h1 pins s σ Ge B G H ρ fp I W ho) fun fl s1 q=> ?_)
 cases fl with
 | next=>exact wpAny_execs_nil q
 | brk=>exact q
 | cont=>exact q
 | ret u=>exact q
theorem Rw.apart {K:W.Frag}{Ge B G H:Hp}{σ:St}{ρ:DS}{fp:Nat→List Addr}{S:List Addr}{G':Hp}(R:Rw K μ Ge B G H σ ρ fp)(w:New H G' S):∀ j,∀ a∈S,a∉fp j:=fun j a ha hj=>by
 obtain ⟨o,h,_⟩:=R.oc j a hj
 rw [(w.2 a ha).1] at h; cases h
theorem aE {i:Nat}{x:Str}{e:Expr}{pos' pos:Pos}{f:DS→Res D}(hN:X.N.Nodup)(hi:X.N[i]?=some x)(hx:zY X.env.scope x)(h:PZ X E μ (μ.getD i 0) e f)(hf:X.fn x=true∨X.env.scope.names.lookup x=some .local:=by first | exact .inl rfl | exact .inr rfl)
  (hsw:swapsWith e (some (.Name x pos')) pos.line X.env=pure false:=by rfl):mD X E μ r (.Assign [.Name x pos'] e pos) (aQ i f):=by
 intro pins s σ Ge B G H ρ fp I R ho
 have hiσ:i < σ.length:=by rw [I.len]; exact (d7 hi).1
 refine aT (zu (pos:=pos) (pos':=pos') hN hi hx (tu h) hsw hf pins s σ H { nx:=fun σ' H'=>∃ d v G' S,f ρ= .ok d∧σ'=σ.set i (some v)∧Rw X.K μ Ge B G' H' σ ρ fp∧Same G G'∧Ow X.K G' H' (μ.getD i 0) d v S∧New H G' S,bk:=fun _ _=>False,ct:=fun _ _=>False,rt:=fun _ _=>False } I ⟨Ge,B,G,ρ,fp,R,ho.res,fun d e v G' H' S R' sg sh o w=>(Bc d v G' S e rfl R' sg o w)⟩) fun fl s1 q=> ?_
 cases fl with
 | next=>
  obtain ⟨σ',H',I',d,v,G',S,e,e2,R',sg,o,w⟩:=q
  subst e2
  exact ⟨_,_,G',H',_,bV e,I',R'.put hiσ o w.1 (fun a ha=>⟨(w.2 a ha).2,R.bh.free (w.2 a ha).1⟩) (fun j _=>R.apart w j),sg⟩
 | brk=>obtain ⟨_,_,_,q⟩:=q; exact q.elim
 | cont=>obtain ⟨_,_,_,q⟩:=q; exact q.elim
 | ret u=>obtain ⟨_,_,_,_,_,q⟩:=q; exact q.elim
theorem mP {e:Expr}{pos:Pos}{f:DS→Res D}(h:PD X E e f)(hs:swapsWith e none pos.line X.env=pure false:=by rfl):mD X E μ r (.Expr e pos) (pq f):=by
 intro pins s σ Ge B G H ρ fp I R ho
 refine aT (jq (fL h) hs pins s σ H { nx:=fun σ' H'=>∃ d G',f ρ= .ok d∧σ'=σ∧Ext (oV fp G H) H G' H',bk:=fun _ _=>False,ct:=fun _ _=>False,rt:=fun _ _=>False } I ⟨oV fp G H,ρ,R.vh,R.ro,ho.res.le R.bh,fun d e v G' H' x rp=>(dJ d G' e rfl x)⟩) fun fl s1 q=> ?_
 cases fl with
 | next=>
  obtain ⟨σ',H',I',d,G',e,e2,x⟩:=q
  subst e2
  exact ⟨ρ,_,_,H',fp,bV e,I',R.grow x,R.gg x⟩
 | brk=>obtain ⟨_,_,_,q⟩:=q; exact q.elim
 | cont=>obtain ⟨_,_,_,q⟩:=q; exact q.elim
 | ret u=>obtain ⟨_,_,_,_,_,q⟩:=q; exact q.elim
theorem bN {c:Expr}{a b:List Stmt}{pos:Pos}{fc:DS→Res Bool}{Fa Fb:DS→Out}(hc:ub X E c fc)(ha:ud X E μ r a Fa)(hb:ud X E μ r b Fb):mD X E μ r (.If c a b pos) (ii fc Fa Fb):=by
 intro o s σ Ge B G H ρ fp I R ho
 refine wpAny_If (aT (hc o s σ (oV fp G H) H ρ I R.vh R.ro (ho.res.le R.bh)) fun k s1 hZ141=> ?_)
 obtain ⟨e,G1,H1,I1,x1⟩:=hZ141
 have kk:=ho.res2 e (Same.refl B)
 have e0:ii fc Fa Fb ρ=if k=true then Fa ρ else Fb ρ:=bV e
 rw [e0]
 cases k with
 | true=>rw [if_pos rfl] at kk ⊢; exact aT (ha o s1 σ Ge B _ H1 ρ fp I1 (R.grow x1) kk) fun _ _ q=>q.le (R.gg x1)
 | false=>rw [if_neg Bool.false_ne_true] at kk ⊢; exact aT (hb o s1 σ Ge B _ H1 ρ fp I1 (R.grow x1) kk) fun _ _ q=>q.le (R.gg x1)
theorem Rw.ext {K:W.Frag}{Ge B G H:Hp}{σ:St}{ρ:DS}{fp:Nat→List Addr}(R:Rw K μ Ge B G H σ ρ fp):Ext Ge B G H:=⟨R.bh,R.eg,R.gh,R.nw⟩
theorem aZ {e:Expr}{pos:Pos}{f:DS→Res D}(h:PZ X E μ r e f):mD X E μ r (.Return (some e) pos) (bJ f):=by
 intro pins s σ Ge B G H ρ fp I R ho
 refine aT (uU (pos:=pos) (tu h) pins s σ H { nx:=fun _ _=>False,bk:=fun _ _=>False,ct:=fun _ _=>False,rt:=fun v H'=>∃ d G' S,f ρ= .ok d∧Rw X.K μ Ge B G' H' σ ρ fp∧Same G G'∧Ow X.K G' H' r d v S∧New H G' S } I ⟨Ge,B,G,ρ,fp,R,ho.res,fun d e v G' H' S R' sg sh o w=>(oJ d G' S e R' sg o w)⟩) fun fl s1 q=> ?_
 cases fl with
 | next=>obtain ⟨_,_,_,q⟩:=q; exact q.elim
 | brk=>obtain ⟨_,_,_,q⟩:=q; exact q.elim
 | cont=>obtain ⟨_,_,_,q⟩:=q; exact q.elim
 | ret u=>
  obtain ⟨v,σ',H',I',rv,d,G',S,e,R',sg,o,w⟩:=q
  exact ⟨d,v,σ',G',H',S,bV e,I',rv,R'.ext,o,w.1,fun a ha=>⟨R.bh.free (w.2 a ha).1,(w.2 a ha).2⟩⟩
theorem kJ {i:Nat}{x:Str}{px pos:Pos}(hm:μ.getD i 0=r)(hN:X.N[i]?=some x)(hv:xP X.env.scope x)(hd:(x == ("__debug__" :Str))=false:=by decide)(hcd:(x == ("__classdict__" :Str))=false:=by decide):mD X E μ r (.Return (some (.Name x px)) pos) (bJ (ac i)):=by
 intro pins s σ Ge B G H ρ fp I R ho
 have hslot:∃ d,ρ[i]?=some (some d)∧ac i ρ= .ok d:=by
  have h:=ho.res
  unfold ac at h
  split at h
  ·rename_i l q; exact ⟨l,q,by unfold ac; rw [q]⟩
  ·exact h.elim
 obtain ⟨d,hr,er⟩:=hslot
 obtain ⟨v,h1,o⟩:=R.sl i _ hr
 rw [hm] at o
 refine aT (uU (pos:=pos) (iq (pos:=px) hN hv hd hcd) pins s σ H { nx:=fun _ _=>False,bk:=fun _ _=>False,ct:=fun _ _=>False,rt:=fun v' H'=>v'=v∧H'=H } I (iI _ h1 rfl rfl)) fun fl s1 q=> ?_
 cases fl with
 | next=>obtain ⟨_,_,_,q⟩:=q; exact q.elim
 | brk=>obtain ⟨_,_,_,q⟩:=q; exact q.elim
 | cont=>obtain ⟨_,_,_,q⟩:=q; exact q.elim
 | ret u=>
  obtain ⟨v',σ',H',I',rv,e2,e3⟩:=q
  subst e2 e3
  exact ⟨d,v',σ',G,H',fp i,bV er,I',rv,R.ext,o,R.nd i,fun a ha=>⟨R.ob i a ha,R.gf i a ha⟩⟩
noncomputable def cE (fc:DS→Res Bool)(F:DS→Out):Nat→DS→Out
 | 0,_=> .bad
 | n+1,ρ=>(fc ρ).out fun b=>if b=true then (match F ρ with
  | .nx ρ'=>cE fc F n ρ'
  | .ct ρ'=>cE fc F n ρ'
  | .bk ρ'=> .nx ρ'
  | .rt d=> .rt d
  | .exc c=> .exc c
  | .bad=> .bad) else .nx ρ
theorem tw (n:Nat){c:Expr}{body:List Stmt}{pos:Pos}{fc:DS→Res Bool}{F:DS→Out}(hp:PassesOwn (model X.prog X.w) X.A X.env X.xe)(hc:ub X E c fc)(hb:ud X E μ r body F):mD X E μ r (.While c body [] pos) (cE fc F n):=by
 intro o s σ Ge B G H ρ fp I R ho
 refine wpAny_While (codeAny_whileLoop (fun k s'=>∃ σ' G' H' ρ' fp',Inv X o σ' H' s'∧Rw X.K μ Ge B G' H' σ' ρ' fp'∧Same G G'∧cE fc F n ρ=cE fc F k ρ') ?_ n ⟨σ,G,H,ρ,fp,I,R,.refl _,rfl⟩)
 intro k s1 hZ13
 obtain ⟨σ1,G1,H1,Q,fp1,I1,R1,sg1,e1⟩:=hZ13
 rw [e1] at ho
 cases k with
 | zero=>exact ho.elim
 | succ k=>
  have ho':OkO E B ((fc Q).out fun b=>if b=true then (match F Q with | .nx ρ'=>cE fc F k ρ' | .ct ρ'=>cE fc F k ρ' | .bk ρ'=> .nx ρ' | .rt d=> .rt d | .exc c=> .exc c | .bad=> .bad) else .nx Q):=ho
  have T:cE fc F (k+1) Q=(fc Q).out fun b=>if b=true then (match F Q with | .nx ρ'=>cE fc F k ρ' | .ct ρ'=>cE fc F k ρ' | .bk ρ'=> .nx ρ' | .rt d=> .rt d | .exc c=> .exc c | .bad=> .bad) else .nx Q:=rfl
  refine wpAny_passesOwn hp (aT (hc o s1 σ1 (oV fp1 G1 H1) H1 Q I1 R1.vh R1.ro (ho'.res.le R1.bh)) fun b s2 hZ142=> ?_)
  obtain ⟨eb,G2,H2,I2,x2⟩:=hZ142
  have kk:=ho'.res2 eb (Same.refl B)
  rw [bV eb] at T
  have R2:=R1.grow x2
  have Y:=sg1.trans (R1.gg x2)
  cases b with
  | true=>
   rw [if_pos rfl] at kk T ⊢
   have kF:OkO E B (F Q):=by
    cases q:F Q with
    | exc c=>rw [q] at kk; exact kk
    | bad=>rw [q] at kk; exact kk
    | _=>trivial
   refine wpAny_passesOwn hp (aT (hb o s2 σ1 Ge B _ H2 Q fp1 I2 R2 kF) fun f s3 q3=> ?_)
   cases f with
   | next=>
    obtain ⟨V,S,G3,H3,W,e3,I3,R3,U⟩:=q3
    rw [e3] at T
    exact (Gg k (Nat.lt_succ_self k) S G3 H3 V W I3 R3 (Y.trans U) (e1.trans T))
   | cont=>
    obtain ⟨V,S,G3,H3,W,e3,I3,R3,U⟩:=q3
    rw [e3] at T
    exact (Gg k (Nat.lt_succ_self k) S G3 H3 V W I3 R3 (Y.trans U) (e1.trans T))
   | brk=>
    obtain ⟨V,S,G3,H3,W,e3,I3,R3,U⟩:=q3
    rw [e3] at T
    exact ⟨V,S,G3,H3,W,e1.trans T,I3,R3,Y.trans U⟩
   | ret u=>
    obtain ⟨d,v,S,G3,H3,S3,e3,q3,q4,q5,q6,q7⟩:=q3
    rw [e3] at T
    exact ⟨d,v,S,G3,H3,S3,e1.trans T,q3,q4,q5,q6,q7⟩
  | false=>
   rw [if_neg Bool.false_ne_true] at kk T ⊢
   exact wpAny_execs_nil ⟨Q,σ1,_,H2,fp1,e1.trans T,I2,R2,Y⟩
end
inductive freshSp (K:W.Frag)(r:Nat)(m:List D→Res D)(vs:List V)(H:Hp)(Q:VK)(E:XK):Prop
 | mk (ds:List D) (G:Hp) (s:Same G H) (rl:RepL K G ds vs) (o:OkR E H (m ds)) (k:∀ d,m ds= .ok d→∀ v G' H' S,Ext G H G' H'→Ow K G' H' r d v S→New H G' S→Q v H')
section
variable{P:Program}{w:World}{K:W.Frag}{mg:Str→Option Value}{base:Heap}{r:Nat}
theorem Fun.fresh {x qual:Str}{st:Stmt}{f:Addr}{fd:FuncData}{N ps:List Str}{k:Nat}{m:List D→Res D}(F:Fun K x qual st f fd)(S:FnScope N ps (ai st))(μ:List Nat)(hμ:∀ i,i < ps.length→μ.getD i 0=0)(len:∀ ds,m ds≠ .bad→ds.length=ps.length)
  (hbody:∀ (cdv:Value) (A:Around) (outer:List Env) (s:Shared) (H:Hp) (E:XK),Room k (A.deeper (envOfC qual (ai st) s.heap.objs.size f cdv))→
   ∃ Fb,ud (xS P w K mg base N qual (ai st) f cdv A outer s H E) E μ r (cK st) Fb∧∀ ds,m ds≠ .bad→fD (Fb (aJ N ds))=m ds):FnOk P w K mg base (CXF P w) (k+1) f fd ps (freshSp K r m):=by
 have nb:∀ {E:XK} {H:Hp} {r:Res D},OkR E H r→r≠ .bad:=fun h z=>by rw [z] at h; exact h
 refine Ch (F.ex) fun oc od kV doc pm an cdv ct osl hS119 lk hcd=> ?_; subst hS119
 refine yu lk hcd S (fun vs H Q E hZ143=>(by obtain ⟨ds,G,_,rl,L,_⟩:=hZ143; rw [← rl.length]; exact len ds (nb L))) fun A outer s H vs Q E hr hsp=> ?_
 obtain ⟨ds,G,hs,rl,L,k⟩:=hsp
 obtain ⟨Fb,hb,hm⟩:=hbody cdv A outer s H E hr
 have J:=hm ds (nb L)
 have hlen:=len ds (nb L)
 have hoO:OkO E H (Fb (aJ N ds)):=by
  rw [← J] at L
  cases q:Fb (aJ N ds) with
  | exc c=>rw [q] at L; exact L
  | bad=>rw [q] at L; exact L
  | _=>trivial
 have zero:∀ i d,(aJ N ds)[i]?=some (some d)→μ.getD i 0=0:=fun i d e=>by
  refine hμ i ?_
  unfold aJ at e
  by_cases hi:i < ds.length
  ·omega
  ·rw [List.getElem?_append_right (by simpa using hi),List.getElem?_replicate] at e
   split at e <;> cases e
 have R0:Rw K μ G H G H (fY N vs) (aJ N ds) (fun _=>[]):=by
  refine ⟨hs,.refl _,.refl _,fun b o e=> .inl e,fun i a e=>(by cases e),fun i a e=>(by cases e),fun i a e=>(by cases e),fun i=>List.nodup_nil,fun i j a e=>(by cases e),fun i d e=> ?_⟩
  obtain ⟨v,hv,rv⟩:=tJ rl i d e
  rw [zero i d e]
  exact (iI v hv rfl rv)
 refine ⟨fun D σ H1=>(σ=fY N vs∧H1=H∧(D.nx=fun _ M=>Q .non M)∧D.rt=Q),?_,rfl,rfl,rfl,rfl⟩
 intro pins s1 σ H1 D I hZ14
 refine lP (hZ14) fun e1 e2 e3 e4=> ?_
 subst e1 e2
 refine aT (hb pins s1 _ G H1 G H1 (aJ N ds) _ I R0 hoO) fun fl s2 q=> ?_
 cases fl with
 | next=>
  obtain ⟨ρ',t,G',M,fp',e,I',R,_⟩:=q
  refine ⟨t,M,I',?_⟩
  rw [e3]
  have hn:m ds= .ok .non:=by rw [← J,e]; rfl
  cases r with
  | zero=>exact k .non hn .non G' M [] R.ext ⟨rfl,rep_non.mpr rfl⟩ .nil
  | succ r=>exact k .non hn .non G' M [] R.ext ⟨by unfold L2.flat; rfl,rfl,rep_non.mpr rfl⟩ .nil
 | brk=>
  obtain ⟨ρ',t,G',M,fp',e,_⟩:=q
  rw [e] at J
  exact absurd J.symm (nb L)
 | cont=>
  obtain ⟨ρ',t,G',M,fp',e,_⟩:=q
  rw [e] at J
  exact absurd J.symm (nb L)
 | ret u=>
  obtain ⟨d,v,t,G',M,S,e,I',rv,x,o,w⟩:=q
  refine ⟨v,t,M,I',rv,?_⟩
  rw [e4]
  exact k d (by rw [← J,e]; rfl) v G' M S x o w
end
inductive tZI (K:W.Frag)(E:XK)(μ:List Nat)(fi:DS→Res (List D))(σ:St)(H:Hp)(R:It→Hp→Prop):Prop
 | mk (Ge B G:Hp) (ρ:DS) (fp:Nat→List Addr) (w:Rw K μ Ge B G H σ ρ fp) (o:OkR E B (fi ρ)) (k:∀ ds,fi ρ= .ok ds→∀ J G' H',Rw K μ Ge B G' H' σ ρ fp→Same G G'→z_ K J ds G'→R J H')
noncomputable def GD (K:W.Frag)(μ:List Nat)(n:Nat)(g:TG)(asg:D→DS→Option DS):Prop:=
 ∀ (Ge B G H:Hp) (σ:St) (ρ ρ':DS) (fp:Nat→List Addr) (v:V) (d:D),σ.length=n→Rw K μ Ge B G H σ ρ fp→Rep K G d v→asg d ρ=some ρ'→g v σ H fun σ' H'=>H'=H∧∃ fp',Rw K μ Ge B G H σ' ρ' fp'
noncomputable def bw (j:Nat):D→DS→Option DS:=fun d ρ=>some (ρ.set j (some d))
noncomputable def dL (j k:Nat):D→DS→Option DS
 | .tup [a,b],ρ=>some ((ρ.set j (some a)).set k (some b))
 | _,_=>none
section
variable{X:Cx}{E:XK}{μ:List Nat}{r:Nat}{tg:Expr}
theorem Rw.set0 {K:W.Frag}{Ge B G H:Hp}{σ:St}{ρ:DS}{fp:Nat→List Addr}{i:Nat}{d:D}{v:V}(R:Rw K μ Ge B G H σ ρ fp)(hi:i < σ.length)(m:μ.getD i 0=0)(h:Rep K G d v):Rw K μ Ge B G H (σ.set i (some v)) (ρ.set i (some d)) (fun j=>if j=i then [] else fp j):=
 R.put hi (by rw [m]; exact ⟨rfl,h⟩) List.nodup_nil (fun a h=>by cases h) fun j _ a h=>by cases h
theorem AX {K:W.Frag}{n j:Nat}(hj:j < n)(m:μ.getD j 0=0):GD K μ n (b_ j) (bw j):=by
 intro Ge B G H σ ρ ρ' fp v d hl R h e
 cases e
 exact ⟨rfl,_,R.set0 (by rw [hl]; exact hj) m h⟩
theorem DL {K:W.Frag}{n j k:Nat}(hj:j < n)(hk:k < n)(m:μ.getD j 0=0)(m':μ.getD k 0=0):GD K μ n (wY K 2 (iY (b_ j) (iY (b_ k) wX))) (dL j k):=by
 intro Ge B G H σ ρ ρ' fp v d hl R h e
 unfold dL at e
 split at e
 ·rename_i a b
  cases e
  rw [rep_tup] at h
  obtain ⟨p,xs,rfl,t,rl⟩:=h
  obtain ⟨x,q,rfl,rx,rl⟩:=rl.inv
  obtain ⟨y,q,rfl,ry,rl⟩:=rl.inv
  have:=rl.inv0; subst this
  have R2:=(R.set0 (by rw [hl]; exact hj) m rx).set0 (i:=k) (by rw [List.length_set,hl]; exact hk) m' ry
  exact ⟨p,[x,y],rfl,(show TpS K H p _ from ⟨R.gh _ _ t.h⟩).sq,rfl,x,[y],rfl,y,[],rfl,rfl,rfl,_,R2⟩
 ·cases e
noncomputable def cf (asg:D→DS→Option DS)(F:DS→Out):List D→DS→Out
 | [],ρ=> .nx ρ
 | d :: ds,ρ=>match asg d ρ with
  | none=> .bad
  | some ρ1=>match F ρ1 with
   | .nx ρ'=>cf asg F ds ρ'
   | .ct ρ'=>cf asg F ds ρ'
   | .bk ρ'=> .nx ρ'
   | .rt d=> .rt d
   | .exc c=> .exc c
   | .bad=> .bad
noncomputable def c_ (fi:DS→Res (List D))(asg:D→DS→Option DS)(F:DS→Out):DS→Out:=fun ρ=>(fi ρ).out fun ds=>cf asg F ds ρ
theorem zn {pos:Pos}{iter:Expr}{body:List Stmt}{g:TG}{asg:D→DS→Option DS}{fi:DS→Res (List D)}{F:DS→Out}(hp:PassesOwn (model X.prog X.w) X.A X.env X.xe)(hc:X.calm=true)(hg:PG X tg g)(hgd:GD X.K μ X.N.length g asg)(hi:PI X tg iter (tZI X.K E μ fi))(hb:ud X E μ r body F)
  (hs:∀ x,foldedSetIterable iter X.env x=pure x:=by intro _; rfl):mD X E μ r (.For tg iter body [] pos) (c_ fi asg F):=by
 intro p s σ Ge B G H L fp I R ho
 refine wpAny_For (aT (hi p s σ H _ I ⟨Ge,B,G,L,fp,R,ho.res,fun Y e J G1 H1 R1 sg src=>(show (fun (J:It) (H1:Hp)=>∃ Y G1,fi L= .ok Y∧Rw X.K μ Ge B G1 H1 σ L fp∧Same G G1∧z_ X.K J Y G1) J H1 from (lv Y G1 e R1 sg src))⟩) fun v s1 h1=>aT h1 fun itv s2 h2=> ?_) hs
 obtain ⟨it,ip,tn,J,H2,e,I2,T,st2,f2,Y,G2,eds,R2,sg2,src⟩:=h2
 subst e
 have kk:OkO E B (cf asg F Y L):=ho.res2 eds (Same.refl B)
 have e0:c_ fi asg F L=cf asg F Y L:=bV eds
 rw [e0]
 have t:∀ {H':Hp},(∀ b∈ip,H' b=none)→∀ b∈ip,iO X p H' b:=fun hn b hb=>⟨hn b hb,(f2 b hb).2⟩
 refine codeAny_forLoop_any (fun n s'=>∃ i σ' G' H' ρ' fp',n=Y.length - i∧i≤Y.length∧Inv X p σ' H' s'∧tn i s'.heap∧(∀ b∈ip,H' b=none)∧Rw X.K μ Ge B G' H' σ' ρ' fp'∧Same G2 G'∧cf asg F Y L=cf asg F (Y.drop i) ρ') ?_ Y.length
  ⟨0,σ,G2,H2,L,fp,rfl,Nat.zero_le _,I2,st2,fun b hb=>(f2 b hb).1,R2,.refl _,rfl⟩
 intro n s3 hZ15
 obtain ⟨i,S,G3,H3,V,fp3,rfl,hi3,I3,st3,fr3,R3,U,h⟩:=hZ15
 obtain ⟨sg,ss⟩:=src G3 H3 U R3.gh i
 by_cases hlt:i < Y.length
 ·obtain ⟨go,yl⟩:=sg Y[i] (by simp [hlt])
  have hdrop:Y.drop i=Y[i] :: Y.drop (i+1):=by rw [List.getElem_cons_drop]
  rw [hdrop] at h
  refine wpAny_passesOwn hp (aT (T.item X rfl rfl rfl hc i p s3 S H3 X.xe I3 (t fr3) st3 go) fun r s4 hZ144=> ?_)
  obtain ⟨u,hr4,h4⟩:=hZ144
  subst hr4
  refine wpAny_passesOwn hp (aT h4 fun _ s5 hZ145=> ?_)
  refine Hc (hZ145) fun xv H5 I5 r5 y5 st5 fr5=> ?_
  obtain ⟨G5,x5,rp5⟩:=yl xv H5 y5
  have I5':=I5.pinned (t fr5) (T.obj _ _ st5)
  have R5:=R3.growF x5
  have O:OkO E B (cf asg F (Y[i] :: Y.drop (i+1)) V):=by rw [← h]; exact kk
  rw [cf] at O
  rw [cf] at h
  cases qa:asg Y[i] V with
  | none=>rw [qa] at O; exact O.elim
  | some ρ6=>
  rw [qa] at O h
  dsimp only at O h
  refine wpAny_passesOwn hp (aT (hg _ s5 S H5 xv u _ I5' r5 (hgd Ge B G5 H5 S V ρ6 fp3 xv _ I5.len R5 rp5 qa)) fun _ s6 hZ146=> ?_)
  obtain ⟨σ6,H6,I6,e6,fp6,R6⟩:=hZ146
  subst e6
  have kk6:OkO E B (F ρ6):=by
   cases q:F ρ6 with
   | exc c=>rw [q] at O; exact O
   | bad=>rw [q] at O; exact O
   | _=>trivial
  refine wpAny_passesOwn hp (aT (hb _ s6 _ Ge B G5 H6 _ _ I6 R6 kk6) fun f s7 q7=> ?_)
  have l:∀ {Z:St} {z C:Hp} {a:DS} {j:Nat→List Addr},Inv X (p ++ nX ip s5.heap) Z C s7→Rw X.K μ Ge B z C Z a j→Same G5 z→cf asg F Y L=cf asg F (Y.drop (i+1)) a→∃ m,m < Y.length - i∧∃ i σ' G' H' ρ' fp',m=Y.length - i∧i≤Y.length∧Inv X p σ' H' s7∧tn i s7.heap∧(∀ b∈ip,H' b=none)∧Rw X.K μ Ge B G' H' σ' ρ' fp'∧Same G2 G'∧cf asg F Y L=cf asg F (Y.drop i) ρ':=fun {Z z C a j} y R7 k M=>by
   refine ⟨Y.length - (i+1),by omega,i+1,Z,z,C,a,j,rfl,hlt,y.unpinned,T.keep _ _ _ st5 fun b hb o e=>(y.pin (b,o) (List.mem_append_right _ (List.mem_append_right _ (ik hb e)))).1,fun b hb=> ?_,R7,(U.trans x5.gg).trans k,M⟩
   obtain ⟨o,e,d⟩:=T.obj _ _ st5 b hb
   exact (y.pin (b,o) (List.mem_append_right _ (List.mem_append_right _ (ik hb e)))).2.1
  cases f with
  | next=>obtain ⟨a,Z,z,C,j,M,y,R7,k⟩:=q7; rw [M] at h; exact l y R7 k h
  | cont=>obtain ⟨a,Z,z,C,j,M,y,R7,k⟩:=q7; rw [M] at h; exact l y R7 k h
  | brk=>
   obtain ⟨a,Z,z,C,j,M,y,R7,k⟩:=q7
   rw [M] at h
   exact ⟨a,Z,z,C,j,h,y.unpinned,R7,((sg2.trans U).trans x5.gg).trans k⟩
  | ret v=>
   obtain ⟨d,v7,Z,z,C,S7,M,y,q7,q8,q9,q10⟩:=q7
   rw [M] at h
   exact ⟨d,v7,Z,z,C,S7,h,y.unpinned,q7,q8,q9,q10⟩
 ·have hie:i=Y.length:=by omega
  subst hie
  refine wpAny_passesOwn hp (aT (T.done X rfl rfl rfl hc Y.length p s3 S H3 X.xe I3 (t fr3) st3 (ss (Nat.le_refl _))) fun r s4 hZ147=> ?_)
  obtain ⟨hr4,I4⟩:=hZ147
  subst hr4
  rw [List.drop_length] at h
  exact wpAny_execs_nil ⟨V,S,G3,H3,fp3,h,I4,R3,sg2.trans U⟩
noncomputable def yA (μ:List Nat)(fi:DS→Res (List D)):DS→Res (List D):=fun ρ=>fi (fm μ ρ)
theorem eP {iter:Expr}{fi:DS→Res (List D)}(h:PI X tg iter (tDI X.K E fi)):PI X tg iter (tZI X.K E μ (yA μ fi)):=by
 intro pins s σ H Q I hZ16
 obtain ⟨Ge,B,G,ρ,fp,R,ho,k⟩:=hZ16
 exact h pins s σ H Q I ⟨G,fm μ ρ,R.gh,R.rof,ho.le R.bh,fun ds e J G' H' x src=>k ds e J G' H' (R.growF x) x.gg src⟩
theorem cz {a:Expr}{p pos:Pos}{fs:DS→Res (List D)}(hg:Gl X "range")(hm:X.mg "range" =none)(ha:mB X E [a] fs)(hs:starEach [a] X.env=[(false,eval a X.env)]:=by rfl):PI X tg (.Call (.Name "range" p) [a] [] pos) (tZI X.K E μ (fun ρ=>(fs ρ).bind oS)):=by
 intro pins s σ H Q I hZ17
 obtain ⟨Ge,B,G,ρ,fp,R,ho,k⟩:=hZ17
 refine pS hg hm (jz ha) hs pins s σ H Q I ⟨oV fp G H,ρ,R.vh,R.ro,ho.fst.le R.bh,fun ds e vs G1 H1 x1 p1=> ?_⟩
 have kk:=ho.snd e (Same.refl B)
 unfold oS at kk
 split at kk
 ·rename_i j
  refine bA (p1.inv) fun v q hS120 rv r0=> ?_; subst hS120
  rw [r0.inv0]
  rw [rep_int] at rv; subst rv
  by_cases hj:cS j=true
  ·have hj':=hj
   unfold cS at hj'
   rw [Bool.and_eq_true] at hj'
   exact (DR j rfl (of_decide_eq_true hj'.1) (of_decide_eq_true hj'.2) (k _ (au e (if_pos hj)) _ _ H1 (R.grow x1) (R.gg x1) (lN 0 j.toNat)))
  ·rw [if_neg hj] at kk; exact kk.elim
 ·exact kk.elim
theorem cv {x:Str}{px pos:Pos}{iter:Expr}{body:List Stmt}{j:Nat}{fi:DS→Res (List D)}{F:DS→Out}(hp:PassesOwn (model X.prog X.w) X.A X.env X.xe)(hc:X.calm=true)(hN:X.N.Nodup)(hj:X.N[j]?=some x)(hx:zY X.env.scope x)(hm:μ.getD j 0=0)(hi:PI X (.Name x px) iter (tZI X.K E μ fi))(hb:ud X E μ r body F)
  (hf:X.fn x=true∨X.env.scope.names.lookup x=some .local:=by first | exact .inl rfl | exact .inr rfl) (hs:∀ x,foldedSetIterable iter X.env x=pure x:=by intro _; rfl):mD X E μ r (.For (.Name x px) iter body [] pos) (c_ fi (bw j) F):=
 zn hp hc (eN hN hj hx hf) (AX (d7 hj).1 hm) hi hb hs
theorem dB {x y:Str}{px py pt pos:Pos}{kt:Nat}{iter:Expr}{body:List Stmt}{j k:Nat}{fi:DS→Res (List D)}{F:DS→Out}(hp:PassesOwn (model X.prog X.w) X.A X.env X.xe)(hc:X.calm=true)(hN:X.N.Nodup)(hj:X.N[j]?=some x)(hk:X.N[k]?=some y)(hx:zY X.env.scope x)(hy:zY X.env.scope y)(hm:μ.getD j 0=0)(hm':μ.getD k 0=0)(hi:PI X (.Tuple [.Name x px,.Name y py] kt pt) iter (tZI X.K E μ fi))(hb:ud X E μ r body F)
  (hf:X.fn x=true∨X.env.scope.names.lookup x=some .local:=by first | exact .inl rfl | exact .inr rfl) (hf':X.fn y=true∨X.env.scope.names.lookup y=some .local:=by first | exact .inl rfl | exact .inr rfl) (hs:∀ x,foldedSetIterable iter X.env x=pure x:=by intro _; rfl):mD X E μ r (.For (.Tuple [.Name x px,.Name y py] kt pt) iter body [] pos) (c_ fi (dL j k) F):=
 zn hp hc (uQ hc (gL (eN hN hj hx hf) (gL (eN hN hk hy hf') q_))) (DL (d7 hj).1 (d7 hk).1 hm hm') hi hb hs
end
section
variable{X:Cx}{pins:List (Addr×Obj)}{σ:St}{H:Hp}{s:Shared}{h':Heap}
theorem Inv.turnedL {t':Nat}{ch:List Addr}(I:Inv X pins σ H s)(hf:∀ b∈ch,iO X pins H b)(k:∀ b o,b∉ch→s.heap.get? b=some o→h'.get? b=some o):Inv X pins σ H { s with heap:=h',toks:=t' }:=by
 have nit:∀ b u,H b=some u→b∉ch:=fun b u e z=>by rw [(hf b z).1] at e; cases e
 refine I.step (g':=s.gens) (d':=s.drawn) (ch:=ch) (fun b hb=> ?_) (fun b o _ _ hc e _=>k b o hc e) (fun b o _ _ hc e _=>⟨o.slots,k b o hc e⟩) (fun _ _ _ _ n=>n)
  (fun b o hc e=>⟨o,k b o hc e⟩) (fun _ _ e=>e) (fun _ _ _ e=>e) (fun b ps e=>⟨#[],by rw [e]; simp⟩) (fun m hm=> ?_) (fun b u e=> ?_) I.bare
 ·refine oW (hf b hb) fun f0 f1 f2 f3 f4 f5=> ?_
  exact (mj f3 f1 f4 f5)
 ·refine zU (hm) fun o es ep ho r=> ?_
  exact (xg o es ep (k _ o (fun z=>(hf _ z).2.1 rfl) ho) r)
 ·refine (I.hok b u e).stay (fun c v hc q=>k c v ?_ q) (fun _ q=>q) fun _ _ q=>q
  rcases hc with z | z
  ·rw [z]; exact nit b u e
  ·exact nit c _ z
theorem Inv.track {p:Addr}{o:HO}(I:Inv X pins σ H s)(hp:iO X pins H p)(new:ObjOk X.prog X.w (br H p o) s.heap p o):Inv X pins σ (br H p o) s:=by
 have hn:=hp.1
 have I':=I.step (g':=s.gens) (d':=s.drawn) (t':=s.toks) (h':=s.heap) (H':=br H p o) (ch:=[p]) (fun b hb=>by
   have e:b=p:=by simpa using hb
   subst e
   refine oW (hp) fun f0 f1 f2 f3 f4 f5=> ?_
   exact (mj f3 f1 f4 f5)) (fun b o _ _ hc e _=>e) (fun b o _ _ hc e _=>⟨o.slots,e⟩) (fun b u hc e n=>by rw [al (fun z=>hc (by simp [z]))]; exact n)
  (fun b o hc e=>⟨o,e⟩) (fun b xs e=>by rw [al (aF e hn)]; exact e) (fun b o u e=>by rw [al (aF e hn)]; exact e) (fun b ps e=>⟨#[],by rw [al (aF e hn),e]; simp⟩) (fun m hm=>hm) (fun b u e=>by
   by_cases hb:b=p
   ·subst hb; rw [aw] at e; cases e; exact new
   ·rw [al hb] at e
    exact (I.hok b u e).stay (fun c v _ q=>q) (fun c q=>by rw [al (aF q hn)]; exact q) fun c xs q=>by rw [al (aF q hn)]; exact q) I.bare
 exact I'
end
noncomputable def Hs (K:W.Frag)(a:Addr):It:=
 ⟨fun i H=>∃ xs x,gu K H a xs∧xs[i]?=some x,fun i H x H'=>∃ p y,H p=none∧x= .ref p∧H'=br H p (.tup [.int i,y])∧∀ xs,gu K H a xs→xs[i]?=some y,fun i H=>∃ xs,gu K H a xs∧xs.length≤i⟩
theorem xK {P:Program}{w:World}{K:W.Frag}{elts:List Expr}{x1:Nat}{tp:Pos}(a e it:Addr)(hne:e≠it):Turn P w K (.Tuple elts x1 tp) (Hs K a) [e,it] e (fun i h=>(∃ old,IsEnum h e it (i:Nat) old)∧h.IsListIter it a i) where
 mem:=by simp
 obj:=fun i h A b r=>by
  obtain ⟨⟨old,t⟩,o,j,c,d⟩:=A
  rcases List.mem_cons.mp r with z | z
  ·subst z; exact ⟨_,t,fun v z=>by cases z⟩
  ·have z:b=it:=by simpa using z
   subst z; exact ⟨o,j,fun v z=>by rw [d] at z; cases z⟩
 keep:=fun i h h' ⟨⟨old,t⟩,A⟩ k=>⟨⟨old,k e (by simp) _ t⟩,A.at fun o e=>k it (by simp) o e⟩
 item:=by
  intro X hP hw hK hc i q s σ H E I hf A hg
  subst hP hw hK
  obtain ⟨⟨old,t⟩,m⟩:=A
  refine mf (hg) fun xs x hq hx=> ?_
  refine cy (I.list hq) fun its rv p hz=> ?_
  obtain ⟨u,hu,ru⟩:=rv.get hx
  have hlt:∀ b∈[e,it],b≠s.heap.objs.size:=fun b r z=>by
   refine cy (m) fun o j c d=> ?_
   rcases List.mem_cons.mp r with y | y
   ·rw [y] at z; exact absurd (Heap.lt_size t) (by rw [z]; exact Nat.lt_irrefl _)
   ·have y:b=it:=by simpa using y
    rw [y] at z; exact absurd (Heap.lt_size j) (by rw [z]; exact Nat.lt_irrefl _)
  have hfr:=I.hok.fresh (Nat.le_refl s.heap.objs.size)
  have hfp:iO X q H s.heap.objs.size:=I.fpOk (Nat.le_refl _) hfr
  refine wpAny_pyNext_enum_item t m p.isList (x:=u) (by simpa using hu) hne fun h1 he1 hit1 ht1 hz1 hk1=>⟨_,rfl,?_⟩
  refine wpAny_letOwnedTupleGo_enum he1 fun h2 he2 l=> ?_
  have l:Heap.SameBut e h1 h2:=l
  have I1:Inv X q σ H { s with heap:=h2,toks:=s.toks+1 }:=I.turnedL (t':=s.toks+1) (ch:=[e,it]) hf fun b o r j=>by
   have b1:b≠e:=fun z=>r (by simp [z])
   have b2:b≠it:=fun z=>r (by simp [z])
   exact l.extBut b o b1 (hk1 b o b1 b2 j)
  have ht2:h2.get? s.heap.objs.size=some { cls:= .type "tuple",data:= .seq #[.int i s.toks,u] }:=l.extBut _ _ (Ne.symm (hlt e (by simp))) ht1
  have I2:=Inv.track (o:= .tup [.int i,x]) I1 hfp (Gh (by show 2≤sizeLine; decide) ([.int i s.toks,u]) (.cons ⟨_,rfl⟩ (.cons ru .nil)) _ ht2 rfl _ rfl)
  refine (xh (.ref s.heap.objs.size) _ I2 rfl (lv _ x hfr rfl rfl (fun ys hy=>by rw [I.list_inj hy hq]; exact hx)) ⟨⟨u,?_⟩,hit1.at fun o j=>l.extBut _ o (Ne.symm hne) j⟩ (fun b r=> ?_))
  ·have:(((i+1:Nat):Int))=(i:Int)+1:=by push_cast; rfl
   rw [this]; exact he2
  ·rw [al (hlt b r)]; exact (hf b r).1
 done:=by
  intro X hP hw hK hc i q s σ H E I hf A hg
  subst hP hw hK
  obtain ⟨⟨old,t⟩,m⟩:=A
  obtain ⟨xs,hq,hx⟩:=hg
  refine cy (I.list hq) fun its rv p hz=> ?_
  have hl:=rv.length
  exact wpAny_pyNext_enum_end (I.ok.hd hc) t m p.isList (by simp; omega) fun h1 hk=>⟨rfl,I.turnedL (t':=s.toks) (ch:=[e,it]) hf fun b o r j=>hk b o (fun z=>r (by simp [z])) j⟩
 self:=fun _ _ _ _ _ A h=>by
  obtain ⟨⟨old,t⟩,_⟩:=A
  exact wpAny_pyIter_enum t h
theorem Ag:bootBuiltins "enumerate" =some (.type "enumerate"):=by decide +kernel
theorem CZ:bootBuiltins "zip" =some (.type "zip"):=by decide +kernel
section
variable{X:Cx}{E:XK}{elts:List Expr}{x1:Nat}{tp:Pos}
noncomputable def FP (K:W.Frag)(ta:TA):TI:=fun σ H R=>ta σ H fun xs H1=>∃ a,xs=[.ref a]∧(∃ ys,gu K H1 a ys)∧R (Hs K a) H1
theorem BE {a:Expr}{ta:TA}{p pos:Pos}(hg:Gl X "enumerate")(hm:X.mg "enumerate" =none)(ha:PA X [a] ta)(hs:starEach [a] X.env=[(false,eval a X.env)]:=by rfl):PI X (.Tuple elts x1 tp) (.Call (.Name "enumerate" p) [a] [] pos) (FP X.K ta):=by
 intro pins s σ H R I h
 refine Call_ (lA I hg hm Ag (PyProof.Rows.callWith_type1 (aT (ha pos pins s σ H _ I h) fun us s1 hZ148=> ?_) hs rfl))
 obtain ⟨vs,H1,I1,r1,q1⟩:=hZ148
 refine cy (q1) fun l e hS121 q=> ?_; obtain ⟨ys,hq⟩:=hS121
 subst e
 cases r1 with
 | cons r rr=>
  cases rr
  cases r
  refine cy (I1.list hq) fun its rv pp hz=> ?_
  refine call_enumerate_list pp.isList fun h2 he hit hz2 hk=> ?_
  refine wpAny_pyIter_enum (s:={ s1 with heap:=h2 }) he ⟨s1.heap.objs.size+1,[s1.heap.objs.size+1,s1.heap.objs.size],_,_,H1,rfl,I1.kept (t':=s1.toks) hk,xK l _ _ (Nat.succ_ne_self _),⟨⟨.none,he⟩,hit⟩,fun b hb=> ?_,q⟩
  have hb':s1.heap.objs.size≤b:=by
   rcases List.mem_cons.mp hb with z | z
   ·rw [z]; exact Nat.le_succ _
   ·have z:b=s1.heap.objs.size:=by simpa using z
    rw [z]; exact Nat.le_refl _
  exact I1.fpOk hb' (I1.hok.fresh hb')
noncomputable def bW:Nat→List D→List D
 | _,[]=>[]
 | k,d :: ds=> .tup [.int k,d] :: bW (k+1) ds
theorem jG:∀ (k:Nat) (l:List D) (i:Nat),(bW k l)[i]?=(l[i]?).map fun d=> .tup [.int ((k+i:Nat):Int),d]
 | _,[],i=>by unfold bW; simp
 | k,d :: ds,0=>by unfold bW; simp
 | k,d :: ds,i+1=>by
  unfold bW
  rw [List.getElem?_cons_succ,List.getElem?_cons_succ,jG (k+1) ds i]
  have:k+1+i=k+(i+1):=by omega
  rw [this]
theorem jH:∀ (k:Nat) (l:List D),(bW k l).length=l.length
 | _,[]=>rfl
 | k,d :: ds=>by unfold bW; rw [List.length_cons,List.length_cons,jH]
theorem zK {K:W.Frag}{G:Hp}{a:Addr}{xs:List V}{ds:List D}(sq:gu K G a xs)(rl:RepL K G ds xs):z_ K (Hs K a) (bW 0 ds) G:=by
 intro G2 H2 g1 g2 i
 have sq2:gu K H2 a xs:=g2.seq (g1.seq sq)
 refine ⟨fun d hd=> ?_,fun hl=>⟨xs,sq2,by rw [jH,rl.length] at hl; exact hl⟩⟩
 rw [jG] at hd
 cases q:ds[i]? with
 | none=>rw [q] at hd; cases hd
 | some d0=>
  rw [q] at hd
  cases hd
  obtain ⟨v,hv,rv⟩:=rl.get q
  refine ⟨(mi xs v sq2 hv),fun y H' hZ149=> ?_⟩
  refine oC (hZ149) fun p z hp e1 e2 h=> ?_
  subst e1 e2
  have q:=h xs sq2
  rw [hv] at q; cases q
  have x:=Ext.new g2 hp (.tup [.int i,v])
  refine ⟨_,x,rep_tup.mpr (dJ p _ rfl (.of aw) (.cons (rep_int.mpr (by rw [Nat.zero_add])) (.cons (rv.mono (g1.trans x.gg)) .nil)))⟩
noncomputable def sj:List D→Res (List D)
 | [.lst l]=> .ok (bW 0 l)
 | _=> .bad
theorem eh {a:Expr}{p pos:Pos}{fs:DS→Res (List D)}(hg:Gl X "enumerate")(hm:X.mg "enumerate" =none)(ha:mB X E [a] fs)(hs:starEach [a] X.env=[(false,eval a X.env)]:=by rfl):PI X (.Tuple elts x1 tp) (.Call (.Name "enumerate" p) [a] [] pos) (tDI X.K E (fun ρ=>(fs ρ).bind sj)):=by
 intro pins s σ H R I hZ18
 obtain ⟨G,ρ,hsm,hro,ho,k⟩:=hZ18
 refine BE hg hm (jz ha) hs pins s σ H R I ⟨G,ρ,hsm,hro,ho.fst,fun ds e vs G1 H1 x1 p1=> ?_⟩
 have kk:=ho.snd e x1.hh
 unfold sj at kk
 split at kk
 ·rename_i l
  refine bA (p1.inv) fun v r hS122 rv r0=> ?_; subst hS122
  rw [r0.inv0]
  rw [rep_lst] at rv
  refine bA (rv) fun b xs hS123 sq rl=> ?_; subst hS123
  exact (iI b rfl ⟨xs,x1.gh.seq sq.sq⟩ (k _ (au e rfl) _ G1 H1 x1 (zK sq.sq rl)))
 ·exact kk.elim
end
noncomputable def Ht (a b:Addr):It:=
 ⟨fun i H=>∃ xs ys x y,H a=some (.lst xs)∧H b=some (.lst ys)∧xs[i]?=some x∧ys[i]?=some y,fun i H x H'=>∃ p y z,H p=none∧x= .ref p∧H'=br H p (.tup [y,z])∧(∀ xs,H a=some (.lst xs)→xs[i]?=some y)∧∀ ys,H b=some (.lst ys)→ys[i]?=some z,
  fun i H=>∃ xs ys,H a=some (.lst xs)∧H b=some (.lst ys)∧(xs.length≤i∨ys.length≤i)⟩
noncomputable def Fw (z TI TO i1 i2 a b:Addr)(i:Nat)(h:Heap):Prop:=IsZip h z TI TO .none∧IsPair h TI (.ref i1) (.ref i2)∧(∃ x y,IsPair h TO x y)∧h.IsListIter i1 a i∧h.IsListIter i2 b i
structure ZApart (z TI TO i1 i2:Addr):Prop where
 TIz:TI≠z
 TOz:TO≠z
 i1z:i1≠z
 i2z:i2≠z
 TITO:TI≠TO
 TIi1:TI≠i1
 TIi2:TI≠i2
 TOi1:TO≠i1
 TOi2:TO≠i2
 i12:i1≠i2
theorem qe {X:Cx}{pins:List (Addr×Obj)}{H:Hp}{a b z TI TO i1 i2:Addr}{xs ys:List V}(D:ZApart z TI TO i1 i2)(hf:∀ b∈[z,TI,TO,i1,i2],iO X pins H b)(hq:H a=some (.lst xs))(hq':H b=some (.lst ys)):ZipApart z TI TO i1 i2 a b:=
 have na:∀ {l:Addr} {zs:List V},H l=some (.lst zs)→∀ c∈[z,TI,TO,i1,i2],l≠c:=fun hl c hc e=>by rw [e,(hf c hc).1] at hl; cases hl
 ⟨D.TIz,D.TOz,D.i1z,D.i2z,D.TITO,D.TIi1,D.TIi2,D.TOi1,D.TOi2,D.i12,na hq z (by simp),na hq TO (by simp),na hq i1 (by simp),na hq i2 (by simp),na hq' z (by simp),na hq' TO (by simp),na hq' i1 (by simp),na hq' i2 (by simp)⟩
theorem zR {P:Program}{w:World}{K:W.Frag}{elts:List Expr}{x1:Nat}{tp:Pos}(a b z TI TO i1 i2:Addr)(D:ZApart z TI TO i1 i2):Turn P w K (.Tuple elts x1 tp) (Ht a b) [z,TI,TO,i1,i2] z (Fw z TI TO i1 i2 a b) where
 mem:=by simp
 obj:=fun i h st c A=>by
  refine rH (st) fun hz q hS124 hS125 hS126=> ?_; obtain ⟨x,y,t⟩:=hS124; obtain ⟨o1,e1,c1,d1⟩:=hS125; obtain ⟨o2,e2,c2,d2⟩:=hS126
  simp only [List.mem_cons,List.not_mem_nil,or_false] at A
  rcases A with rfl | rfl | rfl | rfl | rfl
  ·exact ⟨_,hz,fun v z=>by cases z⟩
  ·exact ⟨_,q,fun v z=>by cases z⟩
  ·exact ⟨_,t,fun v z=>by cases z⟩
  ·exact ⟨o1,e1,fun v z=>by rw [d1] at z; cases z⟩
  ·exact ⟨o2,e2,fun v z=>by rw [d2] at z; cases z⟩
 keep:=fun i h h' ⟨hz,q,⟨x,y,t⟩,h1,h2⟩ k=>⟨k z (by simp) _ hz,k TI (by simp) _ q,⟨x,y,k TO (by simp) _ t⟩,h1.at fun o e=>k i1 (by simp) o e,h2.at fun o e=>k i2 (by simp) o e⟩
 item:=by
  intro X hP hw hK A i F s σ H E I hf st hg
  subst hP hw hK
  refine rH (st) fun hz q hS127 h1 h2=> ?_; obtain ⟨u0,w0,t⟩:=hS127
  refine oY (hg) fun xs ys x y hq B hx hy=> ?_
  refine cy (I.list (.inl (.inl hq))) fun its rv p _=> ?_
  refine cy (I.list (.inl (.inl B))) fun its' rv' p' _=> ?_
  obtain ⟨u,hu,ru⟩:=rv.get hx
  obtain ⟨u',hu',ru'⟩:=rv'.get hy
  have DD:=qe D hf hq B
  have hfr:=I.hok.fresh (Nat.le_refl s.heap.objs.size)
  have hfp:iO X F H s.heap.objs.size:=I.fpOk (Nat.le_refl _) hfr
  have lt:∀ {c:Addr} {o:Obj},s.heap.get? c=some o→c≠s.heap.objs.size:=fun e=>Nat.ne_of_lt (Heap.lt_size e)
  have hlt:∀ c∈[z,TI,TO,i1,i2],c≠s.heap.objs.size:=fun c A=>by
   obtain ⟨o1,e1,_⟩:=h1
   obtain ⟨o2,e2,_⟩:=h2
   simp only [List.mem_cons,List.not_mem_nil,or_false] at A
   rcases A with rfl | rfl | rfl | rfl | rfl
   ·exact lt hz
   ·exact lt q
   ·exact lt t
   ·exact lt e1
   ·exact lt e2
  refine wpAny_pyNext_zip_item DD hz q t h1 h2 p.isList p'.isList (x:=u) (y:=u') (by simpa using hu) (by simpa using hu') fun h3 a1 a2 a3 a4 a5 a6 hk=>⟨_,rfl,?_⟩
  refine wpAny_letOwnedTupleGo_zip a1 fun h4 hz4 r=> ?_
  have r:Heap.SameBut z h3 h4:=r
  have I1:Inv X F σ H { s with heap:=h4,toks:=s.toks }:=I.turnedL (t':=s.toks) (ch:=[z,TI,TO,i1,i2]) hf fun c o A e1=>by
   have n:∀ d∈[z,TI,TO,i1,i2],c≠d:=fun d hd z=>A (by rw [z]; exact hd)
   exact r.extBut c o (n z (by simp)) (hk c o (n z (by simp)) (n TO (by simp)) (n i1 (by simp)) (n i2 (by simp)) e1)
  have ht2:h4.get? s.heap.objs.size=some { cls:= .type "tuple",data:= .seq #[u,u'] }:=r.extBut _ _ (Ne.symm (hlt z (by simp))) a5
  have I2:=Inv.track (o:= .tup [x,y]) I1 hfp (Gh (by show 2≤sizeLine; decide) ([u,u']) (.cons ru (.cons ru' .nil)) _ ht2 rfl _ rfl)
  refine (xh (.ref s.heap.objs.size) _ I2 rfl (oJ _ x y hfr rfl rfl (fun zs C=>by rw [hq] at C; cases C; exact hx) (fun zs C=>by rw [B] at C; cases C; exact hy)) (uw hz4 (r.extBut _ _ D.TIz (hk _ _ D.TIz D.TITO D.TIi1 D.TIi2 q)) ⟨_,_,r.extBut _ _ D.TOz a2⟩ (a3.at fun o e=>r.extBut _ o D.i1z e) (a4.at fun o e=>r.extBut _ o D.i2z e)) (fun c A=> ?_))
  rw [al (hlt c A)]; exact (hf c A).1
 done:=by
  intro X hP hw hK A i F s σ H E I hf st hg
  subst hP hw hK
  refine rH (st) fun hz q hS128 h1 h2=> ?_; obtain ⟨u0,w0,t⟩:=hS128
  refine bA (hg) fun xs ys hq B hx=> ?_
  refine cy (I.list (.inl (.inl hq))) fun its rv p _=> ?_
  refine cy (I.list (.inl (.inl B))) fun its' rv' p' _=> ?_
  have hl:=rv.length
  have hl':=rv'.length
  exact wpAny_pyNext_zip_end (I.ok.hd A) (qe D hf hq B) hz q t h1 h2 p.isList p'.isList (hx.imp (fun hx=>by simp; omega) (fun hx=>by simp; omega)) fun h3 hk=>⟨rfl,I.turnedL (t':=s.toks) (ch:=[z,TI,TO,i1,i2]) hf fun c o A e1=>by
   have n:∀ d∈[z,TI,TO,i1,i2],c≠d:=fun d hd z=>A (by rw [z]; exact hd)
   exact hk c o (n z (by simp)) (n TO (by simp)) (n i1 (by simp)) (n i2 (by simp)) e1⟩
 self:=fun _ _ _ _ _ st h=>wpAny_pyIter_zip st.1 h
section
variable{X:Cx}{E:XK}{elts:List Expr}{x1:Nat}{tp:Pos}
noncomputable def HF (ta:TA):TI:=fun σ H R=>ta σ H fun xs H1=>∃ a b,xs=[.ref a,.ref b]∧(∃ ys,H1 a=some (.lst ys))∧(∃ ys,H1 b=some (.lst ys))∧R (Ht a b) H1
theorem EI {a b:Expr}{ta:TA}{p pos:Pos}(hg:Gl X "zip")(hm:X.mg "zip" =none)(ha:PA X [a,b] ta)(hs:starEach [a,b] X.env=[(false,eval a X.env),(false,eval b X.env)]:=by rfl)(hs2:starEach [b] X.env=[(false,eval b X.env)]:=by rfl):PI X (.Tuple elts x1 tp) (.Call (.Name "zip" p) [a,b] [] pos) (HF ta):=by
 intro pins s σ H R I h
 refine Call_ (lA I hg hm CZ (PyProof.Rows.callWith_type1 (aT (ha pos pins s σ H _ I h) fun us t hZ150=> ?_) (by rw [hs,hs2]) (by rw [hs2]; rfl)))
 obtain ⟨vs,H1,I1,r1,q1⟩:=hZ150
 refine oC (q1) fun l m e hS129 hS130 q=> ?_; obtain ⟨ys,hq⟩:=hS129; obtain ⟨zs,hq'⟩:=hS130
 subst e
 cases r1 with
 | cons r rr=>
  cases rr with
  | cons r' rr=>
  cases rr
  cases r
  cases r'
  refine cy (I1.list (.inl (.inl hq))) fun its rv pp hz=> ?_
  refine cy (I1.list (.inl (.inl hq'))) fun its' rv' pp' hz'=> ?_
  refine call_zip_2 pp.isList pp'.isList fun h2 b1 b2 b3 b4 b5 b6 hk=> ?_
  have D:ZApart (t.heap.objs.size+4) (t.heap.objs.size+2) (t.heap.objs.size+3) t.heap.objs.size (t.heap.objs.size+1):=by
   generalize t.heap.objs.size=n
   exact ⟨by show (n+2:Nat)≠n+4; omega,by show (n+3:Nat)≠n+4; omega,by show (n:Nat)≠n+4; omega,by show (n+1:Nat)≠n+4; omega,by show (n+2:Nat)≠n+3; omega,by show (n+2:Nat)≠n; omega,by show (n+2:Nat)≠n+1; omega,by show (n+3:Nat)≠n; omega,by show (n+3:Nat)≠n+1; omega,by show (n:Nat)≠n+1; omega⟩
  refine wpAny_pyIter_zip (s:={ t with heap:=h2 }) b1 ⟨t.heap.objs.size+4,[t.heap.objs.size+4,t.heap.objs.size+2,t.heap.objs.size+3,t.heap.objs.size,t.heap.objs.size+1],_,_,H1,rfl,I1.kept (t':=t.toks) hk,zR l m _ _ _ _ _ D,(uw b1 b2 ⟨_,_,b3⟩ b4 b5),fun c hc=> ?_,q⟩
  have hb':t.heap.objs.size≤c:=by
   simp only [List.mem_cons,List.not_mem_nil,or_false] at hc
   rcases hc with rfl | rfl | rfl | rfl | rfl
   ·exact Nat.le_add_right _ _
   ·exact Nat.le_add_right _ _
   ·exact Nat.le_add_right _ _
   ·exact Nat.le_refl _
   ·exact Nat.le_add_right _ _
  exact I1.fpOk hb' (I1.hok.fresh hb')
noncomputable def jB:List D→List D→List D
 | a :: as,b :: bs=> .tup [a,b] :: jB as bs
 | _,_=>[]
theorem t_:∀ (l m:List D) (i:Nat) (d:D),(jB l m)[i]?=some d→∃ a b,l[i]?=some a∧m[i]?=some b∧d= .tup [a,b]
 | [],_,i,d,h=>by unfold jB at h; simp at h
 | _ :: _,[],i,d,h=>by unfold jB at h; simp at h
 | a :: as,b :: bs,0,d,h=>by unfold jB at h; simp at h; exact (dJ a b rfl rfl h.symm)
 | a :: as,b :: bs,i+1,d,h=>by
  unfold jB at h
  refine bA (t_ as bs i d (by simpa using h)) fun x y h1 h2 h3=> ?_
  exact (dJ x y (by simpa using h1) (by simpa using h2) h3)
theorem ua:∀ (l m:List D),(jB l m).length=min l.length m.length
 | [],_=>by unfold jB; simp
 | _ :: _,[]=>by unfold jB; simp
 | a :: as,b :: bs=>by unfold jB; rw [List.length_cons,List.length_cons,List.length_cons,ua]; omega
theorem Ca {K:W.Frag}{G:Hp}{a b:Addr}{xs ys:List V}{ds es:List D}(sq:LsS K G a xs)(rl:RepL K G ds xs)(sq':LsS K G b ys)(rl':RepL K G es ys):z_ K (Ht a b) (jB ds es) G:=by
 intro G2 H2 g1 g2 i
 have s2:=g2 _ _ (g1 _ _ sq.h)
 have s2':=g2 _ _ (g1 _ _ sq'.h)
 refine ⟨fun d hd=> ?_,fun hl=>(dJ xs ys s2 s2' (by rw [ua,rl.length,rl'.length] at hl; omega))⟩
 refine bA (t_ _ _ _ _ hd) fun d1 d2 q1 q2 e=> ?_
 subst e
 obtain ⟨v,hv,rv⟩:=rl.get q1
 obtain ⟨v',hv',rv'⟩:=rl'.get q2
 refine ⟨(oH xs ys v v' s2 s2' hv hv'),fun y H' hZ151=> ?_⟩
 refine iN (hZ151) fun p z z' hp e1 e2 h h'=> ?_
 subst e1 e2
 have q:=h xs s2
 rw [hv] at q; cases q
 have q:=h' ys s2'
 rw [hv'] at q; cases q
 have x:=Ext.new g2 hp (.tup [v,v'])
 exact ⟨_,x,rep_tup.mpr (dJ p _ rfl (.of aw) (.cons (rv.mono (g1.trans x.gg)) (.cons (rv'.mono (g1.trans x.gg)) .nil)))⟩
noncomputable def oA:List D→Res (List D)
 | [.lst l,.lst m]=> .ok (jB l m)
 | _=> .bad
theorem jo {a b:Expr}{p pos:Pos}{fs:DS→Res (List D)}(hg:Gl X "zip")(hm:X.mg "zip" =none)(ha:mB X E [a,b] fs)(hs:starEach [a,b] X.env=[(false,eval a X.env),(false,eval b X.env)]:=by rfl)(hs2:starEach [b] X.env=[(false,eval b X.env)]:=by rfl):PI X (.Tuple elts x1 tp) (.Call (.Name "zip" p) [a,b] [] pos) (tDI X.K E (fun ρ=>(fs ρ).bind oA)):=by
 intro pins s σ H R I hZ19
 obtain ⟨G,ρ,hsm,hro,ho,k⟩:=hZ19
 refine EI hg hm (jz ha) hs hs2 pins s σ H R I ⟨G,ρ,hsm,hro,ho.fst,fun ds e vs G1 H1 x1 p1=> ?_⟩
 have kk:=ho.snd e x1.hh
 unfold oA at kk
 split at kk
 ·rename_i l m
  refine bA (p1.inv) fun v r hS131 rv r0=> ?_; subst hS131
  refine bA (r0.inv) fun v' r' hS132 rv' r0'=> ?_; subst hS132
  rw [r0'.inv0]
  rw [rep_lst] at rv rv'
  refine bA (rv) fun b1 xs hS133 sq rl=> ?_; subst hS133
  refine bA (rv') fun b2 ys hS134 sq' rl'=> ?_; subst hS134
  exact (lv b1 b2 rfl ⟨xs,x1.gh _ _ sq.h⟩ ⟨ys,x1.gh _ _ sq'.h⟩ (k _ (au e rfl) _ G1 H1 x1 (Ca sq rl sq' rl')))
 ·exact kk.elim
end
inductive tN (K:W.Frag)(E:XK)(n:Nat)(f:DS→Res D)(σ:St)(H:Hp)(Q:VK):Prop
 | mk (G:Hp) (ρ:DS) (s:Same G H) (r:Ro K G σ ρ) (o:OkR E H (f ρ)) (k:∀ d,f ρ= .ok d→∀ v G' H' S,Ext G H G' H'→Ow K G' H' n d v S→New H G' S→Q v H')
noncomputable def TN (K:W.Frag)(E:XK)(n:Nat)(f:DS→Res D)(te:TE):Prop:=
 ∀ (σ:St) (G H:Hp) (ρ:DS) (Q:VK),Same G H→Ro K G σ ρ→OkR E H (f ρ)→(∀ d,f ρ= .ok d→∀ v G' H' S,Ext G H G' H'→Ow K G' H' n d v S→New H G' S→Q v H')→te σ H Q
theorem Ext.hnew {G H G' H':Hp}{p:Addr}(x:Ext G H G' H')(hp:H' p=none)(o:HO):Ext G H G' (br H' p o):=
 ⟨fun b u e=>by rw [al (aF (x.hh b u e) hp)]; exact x.hh b u e,x.gg,fun b u e=>by rw [al (aF (x.gh b u e) hp)]; exact x.gh b u e,x.nw⟩
theorem New.step {H G2 H2 G3 H3:Hp}{S:List Addr}(w:New H G2 S)(hc:∀ a∈S,∃ o,H2 a=some o∧¬ oK o)(x:Ext G2 H2 G3 H3):New H G3 S:=⟨w.1,fun a ha=>⟨(w.2 a ha).1,by
 cases q:G3 a with
 | none=>rfl
 | some o=>
  rcases x.nw a o q with z | z
  ·rw [(w.2 a ha).2] at z; cases z
  ·obtain ⟨o',h,hk⟩:=hc a ha
   rcases z with z | z
   ·rw [z] at h; cases h
   ·have h2:=x.gh a o q
    rw [x.hh a _ h] at h2
    cases h2
    exact (hk z).elim⟩⟩
theorem New.join {H H2 G:Hp}{S T:List Addr}(w:New H G S)(w':New H2 G T)(hc:∀ a∈S,∃ o,H2 a=some o∧¬ oK o)(sh:Same H H2):New H G (S ++ T):=by
 refine ⟨List.nodup_append.mpr ⟨w.1,w'.1,fun a ha b hb e=> ?_⟩,fun a ha=> ?_⟩
 ·subst e
  obtain ⟨o,h,_⟩:=hc a ha
  rw [(w'.2 a hb).1] at h; cases h
 ·rcases List.mem_append.mp ha with z | z
  ·exact w.2 a z
  ·exact ⟨sh.free (w'.2 a z).1,(w'.2 a z).2⟩
theorem AllW.has {K:W.Frag}{G H:Hp}{n:Nat}{ds:List D}{vs:List V}{S:List Addr}(h:AllW (Ow K G H n) ds vs S):∀ a∈S,∃ o,H a=some o∧¬ oK o:=h.cell fun d v A q a ha=>let ⟨o,e,c⟩:=q.cell a ha; ⟨o,e,c.nokey⟩
section
variable{X:Cx}{E:XK}{μ:List Nat}{r n:Nat}
theorem BC {e:Expr}{f:DS→Res D}(h:PN X E n e f):PE X e (tN X.K E n f):=by
 intro pins s σ H Q I hZ20
 obtain ⟨G,ρ,hs,hr,ho,k⟩:=hZ20
 exact aT (h pins s σ G H ρ I hs hr ho) fun u s' hZ152=>(by obtain ⟨d,e,v,G',H',S,I',rv,x,o,w⟩:=hZ152; exact ⟨v,H',I',rv,k d e v G' H' S x o w⟩)
theorem PN.tn {e:Expr}{f:DS→Res D}{te:TE}(h:PE X e te)(t:TN X.K E n f te):PN X E n e f:=by
 intro pins s σ G H ρ I hs hr ho
 refine aT (h pins s σ H (fun v H'=>∃ d G' S,f ρ= .ok d∧Ext G H G' H'∧Ow X.K G' H' n d v S∧New H G' S) I (t σ G H ρ _ hs hr ho fun d e v G' H' S x o w=>(jT d G' S e x o w))) fun u s' hZ153=>(by obtain ⟨v,H',I',rv,d,G',S,e,x,o,w⟩:=hZ153; exact ⟨d,e,v,G',H',S,I',rv,x,o,w⟩)
theorem qY {K:W.Frag}{G G' H H':Hp}{p:Addr}{ds:List D}{vs:List V}(x:Ext G H G' H')(hp:H' p=none)(rl:RepL K G' ds vs):Ext G H G' (br H' p (.lst vs))∧Ow K G' (br H' p (.lst vs)) 1 (.lst ds) (.ref p) [p]∧New H G' [p]:=by
 refine ⟨x.hnew hp _,(jT p vs ([]) rfl aw rfl ?_),⟨List.nodup_cons.mpr ⟨List.not_mem_nil,List.nodup_nil⟩,fun a ha=> ?_⟩⟩
 ·have go:∀ {ds:List D} {vs:List V},RepL K G' ds vs→AllW (Ow K G' (br H' p (.lst vs)) 0) ds vs []:=by
   intro ds
   induction ds with
   | nil=>intro vs h; exact ⟨h.inv0,rfl⟩
   | cons d ds ih=>
    intro vs h
    refine bA (h.inv) fun v q hS135 h1 h2=> ?_; subst hS135
    refine (oH v q ([]) ([]) rfl rfl ⟨rfl,h1⟩ ((ih h2).mono fun d v A _ _ z=> ?_))
    exact z
  exact (go rl).mono fun d v A _ _ z=>z
 ·have e:a=p:=by simpa using ha
  subst e
  exact ⟨x.hh.free hp,by
   cases q:G' a with
   | none=>rfl
   | some o=>rw [x.gh a o q] at hp; cases hp⟩
theorem jX {es:List Expr}{pos:Pos}{f:DS→Res (List D)}(h:mB X E es f):PN X E 1 (.List es pos) (i6 f):=by
 refine .tn (zi (jz h)) fun σ G H ρ Q hs hro ho k=>⟨G,ρ,hs,hro,ho.fst,fun ds e vs G1 H1 x1 r1=> ?_⟩
 have kk:=ho.snd e x1.hh
 by_cases hl:aX ds.length=true
 ·refine ⟨by rw [← r1.length]; exact b0 hl,fun p hp=> ?_⟩
  obtain ⟨x,o,w⟩:=qY x1 hp r1
  exact k (.lst ds) (au e (if_pos hl)) _ _ _ _ x o w
 ·rw [if_neg hl] at kk; exact kk.elim
theorem BK {CX:rM}{k:Nat}{f:Addr}{fd:FuncData}{ps:List Str}{m:List D→Res D}{x:Str}{p pos:Pos}{e:Expr}{es:List Expr}{fs:DS→Res (List D)}(F:FnOk X.prog X.w X.K X.mg X.base CX k f fd ps (freshSp X.K n m))(hr:Room k X.A)(hg:Gl X x)(hm:X.mg x=some (.ref f))(hk:W.keepIn X.K (.ref f)=true)(hb:Binds X.K fd ps [])(hx:cP CX X E)
  (ha:mB X E (e :: es) fs) (hdb:(x == ("__debug__" :Str))=false:=by decide) (he:starEach (e :: es) X.env=(false,eval e X.env) :: starEach es X.env:=by rfl) (hpl:(backTo pos (starEach es X.env)).any (·.1)=false:=by rfl) :
  PN X E n (.Call (.Name x p) (e :: es) [] pos) (bD fs m):=
 .tn (Bz F hr hg hm hk hb .nil hx (jz ha) hdb he hpl) fun σ G H ρ Q hs hro ho k=>⟨G,ρ,hs,hro,ho.fst,fun ds e1 vs G1 H1 x1 p1=>⟨ds,G1,x1.gh,by rw [List.append_nil]; exact p1,ho.snd e1 x1.hh,fun d ed v G' H' S xx o w=>k d (au e1 ed) v G' H' S (x1.trans xx) o ⟨w.1,fun a ha=>⟨x1.hh.free (w.2 a ha).1,(w.2 a ha).2⟩⟩⟩⟩
theorem PZ.zero {e:Expr}{f:DS→Res D}(h:PZ X E μ n e f):PZ X E μ 0 e f:=by
 intro pins s σ Ge B G H ρ fp I R ho
 refine aT (h pins s σ Ge B G H ρ fp I R ho) fun u s' hZ154=> ?_
 obtain ⟨d,e,v,x,J,S,I',rv,t,sg,sh,o,w⟩:=hZ154
 have dec:∀ b,Decidable (b∈S):=fun b=>Classical.propDecidable _
 have W:Same x (fun b=>if b∈S then J b else x b):=fun b u e=>by
  show (if b∈S then J b else x b)=some u
  by_cases q:b∈S
  ·rw [(w.2 b q).2] at e; cases e
  ·rw [if_neg q]; exact e
 have rp:Rep X.K (fun b=>if b∈S then J b else x b) d v:=o.rep W fun a ha u e=>by
  show (if a∈S then J a else x a)=some u
  rw [if_pos ha]; exact e
 refine ⟨d,e,v,fun b=>if b∈S then J b else x b,J,[],I',rv,⟨fun b u e=> ?_,t.eg.trans W,t.bh,fun b u e=> ?_,fun i a e=> ?_,t.ob,t.oc,t.nd,t.dj,fun i d e=> ?_⟩,sg.trans W,sh,⟨rfl,rp⟩,.nil⟩
 ·have e:(if b∈S then J b else x b)=some u:=e
  by_cases q:b∈S
  ·rw [if_pos q] at e; exact e
  ·rw [if_neg q] at e; exact t.gh b u e
 ·have e:(if b∈S then J b else x b)=some u:=e
  by_cases q:b∈S
  ·exact .inr (.inl (R.bh.free (w.2 b q).1))
  ·rw [if_neg q] at e; exact t.nw b u e
 ·show (if a∈S then J a else x a)=none
  rw [if_neg (fun z=>R.apart w i a z e)]
  exact t.gf i a e
 ·obtain ⟨v,hv,hh⟩:=t.sl i d e
  exact ⟨v,hv,hh.mono W fun a _ o eo=>eo⟩
theorem kr {ρ:DS}:fm [] ρ=ρ:=by
 unfold fm
 apply List.ext_getElem?
 intro i
 rw [List.getElem?_mapIdx]
 cases ρ[i]? <;> simp
theorem aL {e:Expr}{f:DS→Res D}(h:PN X E n e f):PZ X E [] n e f:=by
 have:=ay (μ:=[]) h
 unfold bZ at this
 simp only [kr] at this
 exact this
theorem jZ {tg iter:Expr}{fi:DS→Res (List D)}(h:PI X tg iter (tDI X.K E fi)):PI X tg iter (tZI X.K E [] fi):=by
 have:=eP (μ:=[]) h
 unfold yA at this
 simp only [kr] at this
 exact this
theorem wc {st:Stmt}{i:Nat}{x:Str}{te:TE}{f:DS→Res D}(hi:X.N[i]?=some x)(hps:PS X st (rE te (b_ i)))(t:TN X.K E n f te)(hm:μ.getD i 0=n):mD X E μ r st (aQ i (bZ μ f)):=by
 intro pins s σ Ge B G H ρ fp I R ho
 have hiσ:i < σ.length:=by rw [I.len]; exact (d7 hi).1
 refine aT (hps pins s σ H { nx:=fun σ' H'=>∃ d v G' S,bZ μ f ρ= .ok d∧σ'=σ.set i (some v)∧Rw X.K μ Ge B G' H' σ ρ fp∧Same G G'∧Ow X.K G' H' n d v S∧New H G' S,bk:=fun _ _=>False,ct:=fun _ _=>False,rt:=fun _ _=>False } I (t σ G H (fm μ ρ) _ R.gh R.rof (ho.res.le R.bh) fun d e v G' H' S x o w=>(Bc d v G' S e rfl (R.growF x) x.gg o w))) fun fl s1 q=> ?_
 ·cases fl with
  | next=>
   obtain ⟨σ',H',I',d,v,G',S,e,e2,R',sg,o,w⟩:=q
   subst e2
   rw [← hm] at o
   exact ⟨_,_,G',H',_,bV e,I',R'.put hiσ o w.1 (fun a ha=>⟨(w.2 a ha).2,R.bh.free (w.2 a ha).1⟩) (fun j _=>R.apart w j),sg⟩
  | brk=>obtain ⟨_,_,_,q⟩:=q; exact q.elim
  | cont=>obtain ⟨_,_,_,q⟩:=q; exact q.elim
  | ret u=>obtain ⟨_,_,_,_,_,q⟩:=q; exact q.elim
end
theorem TN.freeze {K:W.Frag}{E:XK}{n:Nat}{f:DS→Res D}{te:TE}(t:TN K E n f te):TN K E 0 f te:=fun σ G H ρ Q hs hr ho k=>t σ G H ρ Q hs hr ho fun d e v G' H' S x o w=>by
 refine cy (x.freeze hs w o) fun G2 x2 _ rp=> ?_
 exact k d e v G2 H' [] x2 ⟨rfl,rp⟩ .nil
noncomputable def GC (K:W.Frag)(n:Nat)(g:TG)(asg:D→DS→Option DS):Prop:=
 ∀ (G H:Hp) (σ:St) (ρ ρ':DS) (v:V) (d:D),σ.length=n→Same G H→Ro K G σ ρ→Rep K G d v→asg d ρ=some ρ'→g v σ H fun σ' H'=>H'=H∧Ro K G σ' ρ'
theorem vH {K:W.Frag}{n j:Nat}(hj:j < n):GC K n (b_ j) (bw j):=by
 intro G H σ ρ ρ' v d hl hs R h e
 cases e
 exact ⟨rfl,R.set (by rw [hl]; exact hj) h⟩
theorem yB {K:W.Frag}{n j k:Nat}(hj:j < n)(hk:k < n):GC K n (wY K 2 (iY (b_ j) (iY (b_ k) wX))) (dL j k):=by
 intro G H σ ρ ρ' v d hl hs R h e
 unfold dL at e
 split at e
 ·rename_i a b
  cases e
  rw [rep_tup] at h
  obtain ⟨p,xs,rfl,t,rl⟩:=h
  obtain ⟨x,q,rfl,rx,rl⟩:=rl.inv
  obtain ⟨y,q,rfl,ry,rl⟩:=rl.inv
  have:=rl.inv0; subst this
  have R2:=(R.set (j:=j) (by rw [hl]; exact hj) rx).set (j:=k) (by rw [List.length_set,hl]; exact hk) ry
  exact ⟨p,[x,y],rfl,(show TpS K H p _ from ⟨hs _ _ t.h⟩).sq,rfl,x,[y],rfl,y,[],rfl,rfl,rfl,R2⟩
 ·cases e
theorem l8 {K:W.Frag}{caps:List (Option Nat)}{i j:Nat}(hi:caps[i]?=some none)(hj:caps[j]?=some none):j5 caps (wY K 2 (iY (b_ i) (iY (b_ j) wX))):=fun x σ0 H Q q=>by
 refine Hd (q) fun a xs e1 sq hl v1 r1 e2 v2 r2 e3 e4 q=> ?_
 refine ⟨a,xs,e1,sq,hl,v1,r1,e2,v2,r2,e3,e4,q,by simp,fun k m v hk hv=> ?_⟩
 have n1:k≠i:=fun z=>by rw [z,hi] at hk; cases hk
 have n2:k≠j:=fun z=>by rw [z,hj] at hk; cases hk
 rw [List.getElem?_set_ne (Ne.symm n2),List.getElem?_set_ne (Ne.symm n1)]
 exact hv
noncomputable def oB {α:Type}(asg:D→DS→Option DS)(ρ:DS)(f:DS→Res α)(d:D):Res α:=match asg d ρ with
 | some ρ'=>f ρ'
 | none=> .bad
noncomputable def aV (fi:DS→Res (List D))(caps:List (Option Nat))(asg:D→DS→Option DS)(ft:DS→Res Bool)(fe:DS→Res D):DS→Res D:=fun ρ=>(fi ρ).bind fun ds=>if aX ds.length=true then
 (bE (oB asg (dN caps ρ) ft) (oB asg (dN caps ρ) fe) ds).bind fun es=> .ok (.lst es) else .bad
theorem lq {t:D→Res Bool}{f:D→Res D}{c:Addr}:∀ (l:List D),bE t f l≠ .exc c
 | []=>fun z=>by unfold bE at z; cases z
 | a :: as=>fun z=>by
  unfold bE at z
  split at z
  ·split at z
   ·cases q:bE t f as with
    | bad=>rw [q] at z; cases z
    | ok x=>rw [q] at z; cases z
    | exc c'=>rw [q] at z; have z':Res.exc c'=Res.exc c:=z; cases z'; exact lq as q
   ·cases z
  ·exact lq as z
  ·cases z
theorem ig {t:D→Res Bool}{f:D→Res D}{d:D}{o:List D}(hd:bE t f [d]= .ok o):∀ {as es:List D},bE t f as= .ok es→bE t f (as ++ [d])= .ok (es ++ o)
 | [],es,h=>by unfold bE at h; cases h; exact hd
 | a :: as,es,h=>by
  rw [List.cons_append]
  unfold bE at h ⊢
  split at h
  ·rename_i ha
   split at h
   ·rename_i e0 hf
    cases q:bE t f as with
    | bad=>rw [q] at h; cases h
    | exc c=>rw [q] at h; cases h
    | ok e2=>
     rw [q] at h
     have h':Res.ok (e0 :: e2)=Res.ok es:=h
     cases h'
     rw [ig hd q]; rfl
   ·cases h
  ·exact ig hd h
  ·cases h
section
variable{X:Cx}{E:XK}{n:Nat}
theorem mV {K:W.Frag}{caps:List (Option Nat)}{g:TG}{asg:D→DS→Option DS}{fi:DS→Res (List D)}{ft:DS→Res Bool}{fe:DS→Res D}(hg:GC K caps.length g asg)(hgm:∀ x σ H (Q Q':St→Hp→Prop),(∀ σ' H',Q σ' H'→Q' σ' H')→g x σ H Q→g x σ H Q') :
  TN K E (n+1) (aV fi caps asg ft fe) (zQ (tDI K E fi) caps g (tDT K qf ft) (tN K qf n fe)):=by
 intro σ G H j Q hs hro ho k
 refine ⟨G,j,hs,hro,ho.fst,fun X e J G1 H1 x1 src=> ?_⟩
 have kk:=ho.snd e x1.hh
 by_cases hl:aX X.length=true
 ·rw [if_pos hl] at kk
  cases hm:bE (oB asg (dN caps j) ft) (oB asg (dN caps j) fe) X with
  | bad=>rw [hm] at kk; exact kk.elim
  | exc c=>exact absurd hm (lq X)
  | ok es=>
   have hres:aV fi caps asg ft fe j= .ok (.lst es):=au e (by rw [if_pos hl]; exact au hm rfl)
   refine ⟨fun i m ys H2=>m=X.length - i∧i≤X.length∧∃ L w S,Ext G1 H1 L H2∧bE (oB asg (dN caps j) ft) (oB asg (dN caps j) fe) (X.take i)= .ok w∧AllW (Ow K L H2 n) w ys S∧New H1 L S,
    ⟨_,rfl,Nat.zero_le _,G1,[],[],.refl x1.gh,rfl,⟨rfl,rfl⟩,.nil⟩,?_⟩
   intro i m ys H2 hZ21
   obtain ⟨rfl,hi,L,w,S,x2,B,M,w1⟩:=hZ21
   have hlen:ys.length≤sizeLine:=by
    have h1:=lr B
    rw [List.length_take] at h1
    have h2:=b0 hl
    rw [← M.length]; omega
   obtain ⟨sg,ss⟩:=src L H2 x2.gg x2.gh i
   by_cases hlt:i < X.length
   ·obtain ⟨go,yl⟩:=sg X[i] (by simp [hlt])
    have P:X=X.take i ++ (X[i] :: X.drop (i+1)):=by rw [List.getElem_cons_drop,List.take_append_drop]
    refine .inr (oG go (fun ys' H'=>∃ L w S,Ext G1 H1 L H'∧bE (oB asg (dN caps j) ft) (oB asg (dN caps j) fe) (X.take (i+1))= .ok w∧AllW (Ow K L H' n) w ys' S∧New H1 L S) (fun ys' H' hZ155=>(by refine jA (hZ155) fun G3 es3 S3 a b c d=> ?_; exact ⟨X.length - (i+1),by omega,rfl,hlt,G3,es3,S3,a,b,c,d⟩)) (fun x H' hy=> ?_))
    obtain ⟨G3,x3,rx⟩:=yl x H' hy
    have htk:X.take (i+1)=X.take i ++ [X[i]]:=by rw [List.take_add_one]; simp [hlt]
    have hm2:=hm
    rw [P] at hm2
    refine bA (lm hm2) fun ea eb q1 F q3=> ?_
    rw [B] at q1; cases q1
    have hcl:(fj caps σ).length=caps.length:=by simp [fj]
    unfold bE at F
    have ht0:∃ b,oB asg (dN caps j) ft X[i]= .ok b:=by
     cases I:oB asg (dN caps j) ft X[i] with
     | bad=>rw [I] at F; cases F
     | exc c=>rw [I] at F; cases F
     | ok b=>exact ⟨b,rfl⟩
    obtain ⟨b,I⟩:=ht0
    rw [I] at F
    cases qa:asg X[i] (dN caps j) with
    | none=>unfold oB at I; rw [qa] at I; cases I
    | some C=>
    have ht2:ft C= .ok b:=by unfold oB at I; rw [qa] at I; exact I
    refine hgm _ _ _ _ _ (fun σ2 H3 hZ156=> ?_) (hg G3 H' _ _ C x X[i] hcl x3.gh (Ah (hro.mono ((x1.gg.trans x2.gg).trans x3.gg))) rx qa)
    obtain ⟨e3,ro3⟩:=hZ156
    subst e3
    refine ⟨G3,C,x3.gh,ro3,by rw [ht2]; trivial,fun b' eb' G4 H4 x4=> ?_⟩
    rw [ht2] at eb'
    cases eb'
    have x24:=(x2.trans x3).trans x4
    have N:=x3.trans x4
    have O:AllW (Ow K G4 H4 n) w ys S:=M.mono fun d v A _ _ z=>z.mono N.gg fun a _ o eo=>N.hh a o eo
    have w4:New H1 G4 S:=w1.step M.has N
    cases b with
    | false=>
     rw [if_neg Bool.false_ne_true]
     refine (jT G4 w S x24 ?_ O w4)
     rw [htk]
     have:=ig (t:=oB asg (dN caps j) ft) (f:=oB asg (dN caps j) fe) (d:=X[i]) (o:=[]) (by unfold bE; rw [I]; rfl) B
     rw [List.append_nil] at this
     exact this
    | true=>
     rw [if_pos rfl]
     dsimp only at F
     have fe2:oB asg (dN caps j) fe X[i]=fe C:=by unfold oB; rw [qa]
     refine ⟨hlen,G4,C,x4.gh,ro3.mono x4.gg,?_,fun y ey v G5 H5 S5 x5 ry w5=> ?_⟩
     ·rw [fe2] at F
      cases hf:fe C with
      | ok y=>trivial
      | exc c=>rw [hf] at F; cases F
      | bad=>rw [hf] at F; cases F
     ·refine (jT G5 (w ++ [y]) (S ++ S5) (x24.trans x5) ?_ ((O.mono fun d v A _ _ z=>z.mono x5.gg fun a _ o eo=>x5.hh a o eo).append (.one ry)) ((w4.step O.has x5).join w5 O.has (x2.hh.trans N.hh)))
      rw [htk]
      exact ig (by unfold bE; rw [I,fe2,ey]; rfl) B
   ·have hie:i=X.length:=by omega
    subst hie
    rw [List.take_length,hm] at B
    cases B
    refine .inl ⟨ss (Nat.le_refl _),hlen,fun p hp=> ?_⟩
    have x12:=x1.trans x2
    refine k _ hres (.ref p) L _ (p :: S) (x12.hnew hp _) (jT p ys S rfl aw rfl (M.mono fun d v A _ hA z=>z.mono (.refl _) fun a ha o eo=>by rw [al (aF eo hp)]; exact eo)) ⟨List.nodup_cons.mpr ⟨fun z=> ?_,w1.1⟩,fun a ha=> ?_⟩
    ·obtain ⟨o,ho,_⟩:=M.has p z; rw [hp] at ho; cases ho
    ·rcases List.mem_cons.mp ha with z | z
     ·subst z
      exact ⟨x12.hh.free hp,by
       cases q:L a with
       | none=>rfl
       | some o=>rw [x2.gh a o q] at hp; cases hp⟩
     ·exact ⟨x1.hh.free (w1.2 a z).1,(w1.2 a z).2⟩
 ·rw [if_neg hl] at kk; exact kk.elim
theorem vJ {j:Nat}:∀ x σ H (Q Q':St→Hp→Prop),(∀ σ' H',Q σ' H'→Q' σ' H')→b_ j x σ H Q→b_ j x σ H Q':=fun _ _ _ _ _ k h=>k _ _ h
theorem yD {K:W.Frag}{j i:Nat}:∀ x σ H (Q Q':St→Hp→Prop),(∀ σ' H',Q σ' H'→Q' σ' H')→wY K 2 (iY (b_ j) (iY (b_ i) wX)) x σ H Q→wY K 2 (iY (b_ j) (iY (b_ i) wX)) x σ H Q':=fun _ _ _ _ _ k h=>by
 refine Hd (h) fun a xs e1 sq hl v1 r1 e2 v2 r2 e3 e4 q=> ?_
 exact ⟨a,xs,e1,sq,hl,v1,r1,e2,v2,r2,e3,e4,k _ _ q⟩
theorem ce {elt iter:Expr}{ifs:List Expr}{x:Str}{px pos:Pos}{scope:Scope}{N:List Str}{caps:List (Option Nat)}{j:Nat}{fi:DS→Res (List D)}{ft:DS→Res Bool}{fe:DS→Res D}(hc:X.calm=true)(S:CompSc X scope N caps)(hjN:N[j]?=some x)(hjc:caps[j]?=some none)(hjl:scope.names.lookup x=some .local)
  (hi:PI X (.Name x px) iter (tDI X.K E fi)) (ht:∀ s H C ex,wy (X.comp s H scope C N ex) qf ifs ft) (he:∀ s H C ex,PN (X.comp s H scope C N ex) qf n elt fe)
  (hs:∀ x,foldedSetIterable iter X.env x=pure x:=by intro _; rfl):PN X E (n+1) (.ListComp elt [⟨.Name x px,iter,ifs,0⟩] scope pos) (aV fi caps (bw j) ft fe):=
 have hlb:=lookup_relabel_local (env:=X.env) hjl
 .tn (vZ (pos:=pos) (te:=tN X.K qf n fe) (tc:=tDT X.K qf ft) hc S hi (fun s H C ex=>eN (X:=X.comp s H scope C N ex) (i:=j) S.nd hjN (.inl hlb) (.inr hlb)) (kE hjc) (fun s H C ex=>ht s H C ex) (fun s H C ex=>BC (he s H C ex)) hs)
  (mV (vH (d7 hjc).1) vJ)
theorem tz {elt iter:Expr}{ifs:List Expr}{x y:Str}{px py pt pos:Pos}{kt:Nat}{scope:Scope}{N:List Str}{caps:List (Option Nat)}{j l:Nat}{fi:DS→Res (List D)}{ft:DS→Res Bool}{fe:DS→Res D}(hc:X.calm=true)(S:CompSc X scope N caps)(hjN:N[j]?=some x)(hlN:N[l]?=some y)(hjc:caps[j]?=some none)(hlc:caps[l]?=some none)(hjl:scope.names.lookup x=some .local)(hll:scope.names.lookup y=some .local)
  (hi:PI X (.Tuple [.Name x px,.Name y py] kt pt) iter (tDI X.K E fi)) (ht:∀ s H C ex,wy (X.comp s H scope C N ex) qf ifs ft) (he:∀ s H C ex,PN (X.comp s H scope C N ex) qf n elt fe)
  (hs:∀ x,foldedSetIterable iter X.env x=pure x:=by intro _; rfl):PN X E (n+1) (.ListComp elt [⟨.Tuple [.Name x px,.Name y py] kt pt,iter,ifs,0⟩] scope pos) (aV fi caps (dL j l) ft fe):=
 have hlb:=lookup_relabel_local (env:=X.env) hjl
 have hlb':=lookup_relabel_local (env:=X.env) hll
 .tn (vZ (pos:=pos) (te:=tN X.K qf n fe) (tc:=tDT X.K qf ft) hc S hi (fun s H C ex=>uQ (X:=X.comp s H scope C N ex) hc (gL (eN (X:=X.comp s H scope C N ex) (i:=j) S.nd hjN (.inl hlb) (.inr hlb)) (gL (eN (X:=X.comp s H scope C N ex) (i:=l) S.nd hlN (.inl hlb') (.inr hlb')) q_))) (l8 hjc hlc) (fun s H C ex=>ht s H C ex) (fun s H C ex=>BC (he s H C ex)) hs)
  (mV (yB (d7 hjc).1 (d7 hlc).1) yD)
theorem kL {elt iter:Expr}{ifs:List Expr}{x y:Str}{px py pos spos:Pos}{scope:Scope}{N:List Str}{caps:List (Option Nat)}{i j:Nat}{fi:DS→Res (List D)}{ft:DS→Res Bool}{fe:DS→Res D}(hN:X.N.Nodup)(hi:X.N[i]?=some y)(hy:X.env.scope.names.lookup y=some .local)(hc:X.calm=true)(S:CompSc X scope N caps)(hjN:N[j]?=some x)(hjc:caps[j]?=some none)(hjl:scope.names.lookup x=some .local)
  (hit:PI X (.Name x px) iter (tDI X.K E fi)) (ht:∀ s H C ex,wy (X.comp s H scope C N ex) qf ifs ft) (he:∀ s H C ex,PN (X.comp s H scope C N ex) qf n elt fe)
  (hsw:swapsWith (.ListComp elt [⟨.Name x px,iter,ifs,0⟩] scope pos) (some (.Name y py)) spos.line X.env=pure true:=by rfl)
  (hs:∀ x,foldedSetIterable iter X.env x=pure x:=by intro _; rfl):∃ te,PS X (.Assign [.Name y py] (.ListComp elt [⟨.Name x px,iter,ifs,0⟩] scope pos) spos) (rE te (b_ i))∧TN X.K E (n+1) (aV fi caps (bw j) ft fe) te:=
 have hlb:=lookup_relabel_local (env:=X.env) hjl
 ⟨_,n9 (pos:=pos) (py:=py) (spos:=spos) (te:=tN X.K qf n fe) (tc:=tDT X.K qf ft) hN hi hy hc S hit (fun s H C ex=>eN (X:=X.comp s H scope C N ex) (i:=j) S.nd hjN (.inl hlb) (.inr hlb)) (kE hjc) (fun s H C ex=>ht s H C ex) (fun s H C ex=>BC (he s H C ex)) hsw hs,
  mV (vH (d7 hjc).1) vJ⟩
theorem zr {elt iter:Expr}{ifs:List Expr}{x z y:Str}{px pz pt py pos spos:Pos}{kt:Nat}{scope:Scope}{N:List Str}{caps:List (Option Nat)}{i j l:Nat}{fi:DS→Res (List D)}{ft:DS→Res Bool}{fe:DS→Res D}(hN:X.N.Nodup)(hi:X.N[i]?=some y)(hy:X.env.scope.names.lookup y=some .local)(hc:X.calm=true)(S:CompSc X scope N caps)(hjN:N[j]?=some x)(hlN:N[l]?=some z)(hjc:caps[j]?=some none)(hlc:caps[l]?=some none)(hjl:scope.names.lookup x=some .local)(hll:scope.names.lookup z=some .local)
  (hit:PI X (.Tuple [.Name x px,.Name z pz] kt pt) iter (tDI X.K E fi)) (ht:∀ s H C ex,wy (X.comp s H scope C N ex) qf ifs ft) (he:∀ s H C ex,PN (X.comp s H scope C N ex) qf n elt fe)
  (hsw:swapsWith (.ListComp elt [⟨.Tuple [.Name x px,.Name z pz] kt pt,iter,ifs,0⟩] scope pos) (some (.Name y py)) spos.line X.env=pure true:=by rfl)
  (hs:∀ x,foldedSetIterable iter X.env x=pure x:=by intro _; rfl):∃ te,PS X (.Assign [.Name y py] (.ListComp elt [⟨.Tuple [.Name x px,.Name z pz] kt pt,iter,ifs,0⟩] scope pos) spos) (rE te (b_ i))∧TN X.K E (n+1) (aV fi caps (dL j l) ft fe) te:=
 have hlb:=lookup_relabel_local (env:=X.env) hjl
 have hlb':=lookup_relabel_local (env:=X.env) hll
 ⟨_,n9 (pos:=pos) (py:=py) (spos:=spos) (te:=tN X.K qf n fe) (tc:=tDT X.K qf ft) hN hi hy hc S hit (fun s H C ex=>uQ (X:=X.comp s H scope C N ex) hc (gL (eN (X:=X.comp s H scope C N ex) (i:=j) S.nd hjN (.inl hlb) (.inr hlb)) (gL (eN (X:=X.comp s H scope C N ex) (i:=l) S.nd hlN (.inl hlb') (.inr hlb')) q_))) (l8 hjc hlc) (fun s H C ex=>ht s H C ex) (fun s H C ex=>BC (he s H C ex)) hsw hs,
  mV (yB (d7 hjc).1 (d7 hlc).1) yD⟩
end
section
variable{K:W.Frag}{μ:List Nat}{Ge B G H:Hp}{σ:St}{ρ:DS}{fp:Nat→List Addr}{j n:Nat}
noncomputable def xU (B G:Hp)(fp:Nat→List Addr)(S:List Addr):Prop:=∀ b∈S,(G b=none∧B b=none)∧∀ i,b∉fp i
theorem Rw.top {l:List D}(R:Rw K μ Ge B G H σ ρ fp)(hr:ρ[j]?=some (some (.lst l)))(hm:μ.getD j 0=n+1):∃ a xs T,σ[j]?=some (some (.ref a))∧H a=some (.lst xs)∧fp j=a :: T∧AllW (Ow K G H n) l xs T:=by
 obtain ⟨v,hv,o⟩:=R.sl j _ hr
 rw [hm] at o
 refine jA (o) fun a xs T e1 e2 e3 h=> ?_
 subst e1
 exact (jT a xs T hv e2 e3 h)
theorem Rw.relist {l':List D}{a:Addr}{ys:List V}{T T':List Addr}(R:Rw K μ Ge B G H σ ρ fp)(hm:μ.getD j 0=n+1)(hv:σ[j]?=some (some (.ref a)))(hf:fp j=a :: T)(o:AllW (Ow K G (br H a (.lst ys)) n) l' ys T')(nd:T'.Nodup)(hT:∀ b∈T',b∈T∨((G b=none∧B b=none)∧∀ i,b∉fp i)):Rw K μ Ge B G (br H a (.lst ys)) σ (ρ.set j (some (.lst l'))) (fun i=>if i=j then a :: T' else fp i):=by
 have hnd:=R.nd j
 rw [hf] at hnd
 have haT:a∉T:=(List.nodup_cons.mp hnd).1
 have F:a∈fp j:=by rw [hf]; exact List.mem_cons_self ..
 have inT:∀ b∈T,b∈fp j:=fun b hb=>by rw [hf]; exact cN hb
 refine R.write F hv (by rw [hm]; exact (jT a ys T' rfl aw rfl o)) (List.nodup_cons.mpr ⟨fun z=> ?_,nd⟩) (fun b hb=> ?_) fun i hi b hb hbi=> ?_
 ·rcases hT a z with y | y
  ·exact haT y
  ·exact y.2 j F
 ·rcases List.mem_cons.mp hb with z | z
  ·subst z; exact ⟨R.gf j _ F,R.ob j _ F⟩
  ·rcases hT b z with y | y
   ·exact ⟨R.gf j _ (inT b y),R.ob j _ (inT b y)⟩
   ·exact y.1
 ·rcases List.mem_cons.mp hb with z | z
  ·subst z; exact hi (R.dj i j _ hbi F)
  ·rcases hT b z with y | y
   ·exact hi (R.dj i j _ hbi (inT b y))
   ·exact y.2 i hbi
theorem Rw.app1 {l:List D}{d:D}{v:V}{S T:List Addr}{a:Addr}{xs:List V}(R:Rw K μ Ge B G H σ ρ fp)(hm:μ.getD j 0=n+1)(hv:σ[j]?=some (some (.ref a)))(hH:H a=some (.lst xs))(hf:fp j=a :: T)(h:AllW (Ow K G H n) l xs T)(o:Ow K G H n d v S)(nd:S.Nodup)(hS:xU B G fp S):Rw K μ Ge B G (br H a (.lst (xs ++ [v]))) σ (ρ.set j (some (.lst (l ++ [d])))) (fun i=>if i=j then a :: (T ++ S) else fp i):=by
 have hnd:=R.nd j
 rw [hf] at hnd
 have haj:a∈fp j:=by rw [hf]; exact List.mem_cons_self ..
 have inT:∀ b∈T,b∈fp j:=fun b q=>by rw [hf]; exact cN q
 have neT:∀ b,b∈T→b≠a:=fun b q z=>(List.nodup_cons.mp hnd).1 (z ▸ q)
 have neS:∀ b,b∈S→b≠a:=fun b q z=>(hS b q).2 j (z ▸ haj)
 have o1:AllW (Ow K G (br H a (.lst (xs ++ [v]))) n) l xs T:=h.mono fun d v A _ hA z=>z.mono (.refl _) fun b q u e=>by
  rw [al (neT b (hA b q))]; exact e
 have o2:Ow K G (br H a (.lst (xs ++ [v]))) n d v S:=o.mono (.refl _) fun b q u e=>by
  rw [al (neS b q)]; exact e
 exact R.relist hm hv hf (o1.append (.one o2)) (List.nodup_append.mpr ⟨(List.nodup_cons.mp hnd).2,nd,fun b q c hc e=>by subst e; exact (hS b hc).2 j (inT b q)⟩) fun b q=>(List.mem_append.mp q).imp id (hS b)
theorem AllW.subs {P:D→V→List Addr→Prop}{ds:List D}{vs:List V}{S A L R:List Addr}(e:S=L ++ A ++ R):(∀ b∈L,b∈S)∧(∀ b∈A,b∈S)∧∀ b∈R,b∈S:=by
 subst e
 exact ⟨fun b h=>List.mem_append_left _ (List.mem_append_left _ h),fun b h=>List.mem_append_left _ (List.mem_append_right _ h),fun b h=>List.mem_append_right _ h⟩
theorem jn {A A' L R:List Addr}(h:(L ++ A ++ R).Nodup)(nd:A'.Nodup)(hA:∀ b∈A',b∈A∨(b∉L∧b∉R)):(L ++ A' ++ R).Nodup:=by
 obtain ⟨h1,h2,h3⟩:=List.nodup_append.mp h
 obtain ⟨h4,h5,h6⟩:=List.nodup_append.mp h1
 refine List.nodup_append.mpr ⟨List.nodup_append.mpr ⟨h4,nd,fun a ha b hb e=> ?_⟩,h2,fun a ha b hb e=> ?_⟩
 ·subst e
  rcases hA a hb with z | z
  ·exact h6 a ha a z rfl
  ·exact z.1 ha
 ·subst e
  rcases List.mem_append.mp ha with z | z
  ·exact h3 a (List.mem_append_left _ z) a hb rfl
  ·rcases hA a z with y | y
   ·exact h3 a (List.mem_append_right _ y) a hb rfl
   ·exact y.2 hb
theorem Rw.set1 {l:List D}{d d0:D}{v:V}{S T:List Addr}{a:Addr}{xs:List V}{m:Nat}(R:Rw K μ Ge B G H σ ρ fp)(hm:μ.getD j 0=n+1)(hv:σ[j]?=some (some (.ref a)))(hH:H a=some (.lst xs))(hf:fp j=a :: T)(h:AllW (Ow K G H n) l xs T)(hl:l[m]?=some d0)(o:Ow K G H n d v S)(nd:S.Nodup)(hS:xU B G fp S):∃ fp',Rw K μ Ge B G (br H a (.lst (xs.set m v))) σ (ρ.set j (some (.lst (l.set m d)))) fp':=by
 have hnd:=R.nd j
 rw [hf] at hnd
 have haj:a∈fp j:=by rw [hf]; exact List.mem_cons_self ..
 have inT:∀ b∈T,b∈fp j:=fun b q=>by rw [hf]; exact cN q
 have neT:∀ b,b∈T→b≠a:=fun b q z=>(List.nodup_cons.mp hnd).1 (z ▸ q)
 have neS:∀ b,b∈S→b≠a:=fun b q z=>(hS b q).2 j (z ▸ haj)
 refine oY (h.at hl) fun w A L Q g1 g2 g3 g4=> ?_
 obtain ⟨sL,sA,sR⟩:=AllW.subs (P:=Ow K G H n) (ds:=l) (vs:=xs) g2
 have hT:=(List.nodup_cons.mp hnd).2
 rw [g2] at hT
 have big:=g4 (Ow K G (br H a (.lst (xs.set m v))) n) (fun d v C hC z=>z.mono (.refl _) fun b q u e=>by rw [al (neT b ((hC b q).elim (sL b) (sR b)))]; exact e) d v S (o.mono (.refl _) fun b q u e=>by rw [al (neS b q)]; exact e)
 refine ⟨_,R.relist hm hv hf big (jn hT nd fun b q=> .inr ⟨fun z=>(hS b q).2 j (inT b (sL b z)),fun z=>(hS b q).2 j (inT b (sR b z))⟩) fun b q=> ?_⟩
 rcases List.mem_append.mp q with z | z
 ·rcases List.mem_append.mp z with y | y
  ·exact .inl (sL b y)
  ·exact .inr (hS b y)
 ·exact .inl (sR b z)
theorem Rw.row {l row':List D}{row:List D}{T:List Addr}{a:Addr}{xs ys':List V}{m:Nat}(R:Rw K μ Ge B G H σ ρ fp)(hm:μ.getD j 0=n+2)(hv:σ[j]?=some (some (.ref a)))(hH:H a=some (.lst xs))(hf:fp j=a :: T)(h:AllW (Ow K G H (n+1)) l xs T)(hl:l[m]?=some (.lst row)) :
  ∃ b ys U,xs[m]?=some (.ref b)∧H b=some (.lst ys)∧AllW (Ow K G H n) row ys U∧U.Nodup∧b∉U∧b∈fp j∧(∀ c∈U,c∈fp j)∧
   ∀ U',AllW (Ow K G (br H b (.lst ys')) n) row' ys' U'→U'.Nodup→(∀ c∈U',c∈U∨((G c=none∧B c=none)∧∀ i,c∉fp i))→∃ fp',Rw K μ Ge B G (br H b (.lst ys')) σ (ρ.set j (some (.lst (l.set m (.lst row'))))) fp':=by
 have hnd:=R.nd j
 rw [hf] at hnd
 have F:a∈fp j:=by rw [hf]; exact List.mem_cons_self ..
 have inT:∀ b∈T,b∈fp j:=fun b hb=>by rw [hf]; exact cN hb
 obtain ⟨haT,hTn⟩:=List.nodup_cons.mp hnd
 refine oY (h.at hl) fun w A L Q g1 g2 g3 g4=> ?_
 obtain ⟨sL,sA,sR⟩:=AllW.subs (P:=Ow K G H (n+1)) (ds:=l) (vs:=xs) g2
 refine jA (g3) fun b ys U e1 e2 e3 h5=> ?_
 subst e1
 have hT:=hTn
 rw [g2] at hT
 obtain ⟨h1,h2,h3⟩:=List.nodup_append.mp hT
 obtain ⟨h4,hA,h6⟩:=List.nodup_append.mp h1
 have hA0:=hA
 rw [e3] at hA
 have I:b∈A:=by rw [e3]; exact List.mem_cons_self ..
 have hUA:∀ c∈U,c∈A:=fun c q=>by rw [e3]; exact cN q
 have hbj:b∈fp j:=inT b (sA b I)
 refine ⟨b,ys,U,g1,e2,h5,(List.nodup_cons.mp hA).2,(List.nodup_cons.mp hA).1,hbj,fun c q=>inT c (sA c (hUA c q)),fun U' o nd hU=> ?_⟩
 have hab:a≠b:=fun z=>haT (z ▸ sA b I)
 have nbL:∀ c,c∈L∨c∈Q→c≠b:=fun c q z=>by
  subst z
  rcases q with y | y
  ·exact h6 c y c I rfl
  ·exact h3 c (List.mem_append_right _ I) c y rfl
 have hset:xs.set m (.ref b)=xs:=by
  apply List.ext_getElem?
  intro k
  by_cases hk:k=m
  ·subst hk; rw [List.getElem?_set_self (d7 g1).1,g1]
  ·rw [List.getElem?_set_ne (Ne.symm hk)]
 have big:=g4 (Ow K G (br H b (.lst ys')) (n+1)) (fun d v C hC z=>z.mono (.refl _) fun c q u e=>by rw [al (nbL c (hC c q))]; exact e) (.lst row') (.ref b) (b :: U') (jT b ys' U' rfl aw rfl o)
 rw [hset] at big
 have ndA':(b :: U').Nodup:=List.nodup_cons.mpr ⟨fun z=>by
  rcases hU b z with y | y
  ·exact (List.nodup_cons.mp hA).1 y
  ·exact y.2 j hbj,nd⟩
 have okA':∀ c∈b :: U',c∈A∨((G c=none∧B c=none)∧∀ i,c∉fp i):=fun c q=>by
  rcases List.mem_cons.mp q with z | z
  ·subst z; exact .inl I
  ·exact (hU c z).imp (hUA c) id
 have okT:∀ c∈L ++ (b :: U') ++ Q,c∈T∨((G c=none∧B c=none)∧∀ i,c∉fp i):=fun c q=>by
  rcases List.mem_append.mp q with z | z
  ·rcases List.mem_append.mp z with y | y
   ·exact .inl (sL c y)
   ·exact (okA' c y).imp (sA c) id
  ·exact .inl (sR c z)
 refine ⟨_,R.write hbj hv (by rw [hm]; exact (jT a xs (L ++ (b :: U') ++ Q) rfl (by rw [al hab]; exact hH) rfl big)) (List.nodup_cons.mpr ⟨fun z=> ?_,jn hT ndA' fun c q=>(okA' c q).imp id fun y=>⟨fun z=>y.2 j (inT c (sL c z)),fun z=>y.2 j (inT c (sR c z))⟩⟩) (fun c q=> ?_) fun i hi c q hci=> ?_⟩
 ·rcases okT a z with y | y
  ·exact haT y
  ·exact y.2 j F
 ·rcases List.mem_cons.mp q with z | z
  ·subst z; exact ⟨R.gf j _ F,R.ob j _ F⟩
  ·rcases okT c z with y | y
   ·exact ⟨R.gf j _ (inT c y),R.ob j _ (inT c y)⟩
   ·exact y.1
 ·rcases List.mem_cons.mp q with z | z
  ·subst z; exact hi (R.dj i j _ hci F)
  ·rcases okT c z with y | y
   ·exact hi (R.dj i j _ hci (inT c y))
   ·exact y.2 i hci
theorem Rw.freshOf {H0 G0:Hp}{S:List Addr}(R:Rw K μ Ge B G H σ ρ fp)(w:New H0 G S)(R0:Rw K μ Ge B G0 H0 σ ρ fp):xU B G fp S:=fun b hb=>⟨⟨(w.2 b hb).2,R0.bh.free (w.2 b hb).1⟩,fun i=>R0.apart w i b hb⟩
end
section
variable{X:Cx}{E:XK}{μ:List Nat}{r n:Nat}
noncomputable def k9 (j:Nat)(f:DS→Res D):DS→Out:=fun ρ=>match ρ[j]? with
 | some (some (.lst l))=>(f ρ).out fun d=>if aX l.length=true then .nx (ρ.set j (some (.lst (l ++ [d])))) else .bad
 | _=> .bad
theorem ky {m:Nat}(h:aX m=true):m < sizeLine:=by
 have h6:sizeLine=16777216:=sizeLine_eq
 have h7:m≤100000:=of_decide_eq_true h
 omega
theorem jp {j:Nat}{x:Str}{e:Expr}{px apos cpos pos:Pos}{f:DS→Res D}(hm:μ.getD j 0=n+1)(hN:X.N[j]?=some x)(hv:xP X.env.scope x)(h:PZ X E μ n e f)
  (hd:(x == ("__debug__" :Str))=false:=by decide) (hcd:(x == ("__classdict__" :Str))=false:=by decide)
  (hs:starEach [e] X.env=(false,eval e X.env) :: starEach [] X.env:=by rfl)
  (hbase:attributeBase (.Name x px) "append" X.env (eval (.Name x px) X.env)=eval (.Name x px) X.env:=by rfl)
  (hfew:((backTo cpos (starEach [e] X.env)).all (fun x=> !x.1) && (backToKw cpos (keywordEach [] X.env)).all (fun x=>x.1.isSome) && decide (([e].length+([]:List Keyword).length+if ([]:List Keyword).isEmpty=true then 0 else 1) < 30))=true:=by rfl)
  (hline:(apos.endLine == cpos.line)=true:=by rfl)
  (hsw:swapsWith (.Call (.Attribute (.Name x px) "append" apos) [e] [] cpos) none pos.line X.env=pure false:=by rfl) :
  mD X E μ r (.Expr (.Call (.Attribute (.Name x px) "append" apos) [e] [] cpos) pos) (k9 j f):=by
 intro pins s σ Ge B G H ρ fp I R ho
 have hp:=vY (apos:=apos) (cpos:=cpos) (r:=iu) PySem.F.plainAttrs_list PySem.F.slot_list_append PySem.F.type_list_append (show Fp X "list.append" iu from lE) (iq (pos:=px) hN hv hd hcd) (il (tu h) lG hs) hbase hfew hline hs rfl
 have hslot:∃ l,ρ[j]?=some (some (.lst l)):=by
  unfold k9 at ho
  split at ho
  ·rename_i l q; exact ⟨l,q⟩
  ·exact ho.elim
 obtain ⟨l,hr⟩:=hslot
 have eo:k9 j f ρ=(f ρ).out fun d=>if aX l.length=true then .nx (ρ.set j (some (.lst (l ++ [d])))) else .bad:=by
  unfold k9
  rw [hr]
 rw [eo] at ho ⊢
 refine jA (R.top hr hm) fun a xs T h1 h2 h3 h4=> ?_
 refine aT (jq hp hsw pins s σ H { nx:=fun σ' H'=>∃ d v G1 H1 S,f ρ= .ok d∧aX l.length=true∧σ'=σ∧Rw X.K μ Ge B G1 H1 σ ρ fp∧Same G G1∧Same H H1∧Ow X.K G1 H1 n d v S∧New H G1 S∧H'=br H1 a (.lst (xs ++ [v])),bk:=fun _ _=>False,ct:=fun _ _=>False,rt:=fun _ _=>False } I ?_) fun fl s1 J=> ?_
 ·refine (iI _ h1 (.inl ⟨rfl,xs,.inl (.inl h2)⟩) ⟨Ge,B,G,ρ,fp,R,ho.res,fun d ed v G1 H1 S R1 sg sh o w=> ?_⟩)
  have k:=ho.res2 ed (Same.refl B)
  by_cases hc:aX l.length=true
  ·exact ⟨a,xs,v,rfl,rfl,sh _ _ h2,by rw [← h4.length]; exact ky hc,d,v,G1,H1,S,ed,hc,rfl,R1,sg,sh,o,w,rfl⟩
  ·rw [if_neg hc] at k; exact k.elim
 ·cases fl with
  | next=>
   obtain ⟨σ',H',I',d,v,G1,H1,S,q,hlk,e2,R1,sg,sh,o,w,e3⟩:=J
   subst e2 e3
   refine jA (R1.top hr hm) fun a2 xs2 T2 g1 g2 g3 g4=> ?_
   rw [h1] at g1
   cases g1
   rw [sh _ _ h2] at g2
   cases g2
   refine ⟨_,_,_,_,_,?_,I',R1.app1 hm h1 (sh _ _ h2) g3 g4 o w.1 (R1.freshOf w R),sg⟩
   rw [bV q,if_pos hlk]
  | brk=>obtain ⟨_,_,_,J⟩:=J; exact J.elim
  | cont=>obtain ⟨_,_,_,J⟩:=J; exact J.elim
  | ret u=>obtain ⟨_,_,_,_,_,J⟩:=J; exact J.elim
noncomputable def rb (j:Nat)(l:List D)(ρ:DS)(d i:D):Out:=match i with
 | .int k=>(match sJ l.length k with | some m=> .nx (ρ.set j (some (.lst (l.set m d)))) | none=> .bad)
 | _=> .bad
noncomputable def lK (j:Nat)(fi f:DS→Res D):DS→Out:=fun ρ=>match ρ[j]? with
 | some (some (.lst l))=>(f ρ).out fun d=>(fi ρ).out fun i=>rb j l ρ d i
 | _=> .bad
theorem New.keep {H G1 H1 G3 H3:Hp}{fp:Nat→List Addr}{S:List Addr}(w:New H G1 S)(hc:∀ a∈S,∃ o,H1 a=some o∧¬ oK o)(ha:∀ i,∀ a∈S,a∉fp i)(x:Ext (oV fp G1 H1) H1 G3 H3):New H (pD (qK fp) G3) S:=⟨w.1,fun a h=>⟨(w.2 a h).1,by
 cases q:pD (qK fp) G3 a with
 | none=>rfl
 | some o=>
  obtain ⟨q1,q2⟩:=kx q
  rcases x.nw a o q2 with z | z
  ·rw [mW q1,(w.2 a h).2] at z; cases z
  ·obtain ⟨o',h',hk⟩:=hc a h
   rcases z with z | z
   ·rw [z] at h'; cases h'
   ·have h2:=x.gh a o q2
    rw [x.hh a _ h'] at h2
    cases h2
    exact (hk z).elim⟩⟩
theorem ra {j:Nat}{x:Str}{i e:Expr}{px tpos pos:Pos}{fi f:DS→Res D}(hm:μ.getD j 0=n+1)(hN:X.N[j]?=some x)(hv:xP X.env.scope x)(hi:PD X E i fi)(h:PZ X E μ n e f)
  (hd:(x == ("__debug__" :Str))=false:=by decide) (hcd:(x == ("__classdict__" :Str))=false:=by decide)
  (ha:∀ v,assign (.Subscript (.Name x px) i tpos) X.env v=(do
   let ov ← holding [v] (eval (.Name x px) X.env)
   let iv ← holding [v,ov] (eval i X.env)
   standAt tpos
   holding [v,ov,iv] (setItem ov iv v)
   release [v,ov,iv] []):=by intro _; rfl)
  (hs:swapsWithSole [.Subscript (.Name x px) i tpos] e pos.line X.env=pure false:=by rfl) (hw:swappedStores [.Subscript (.Name x px) i tpos] e X.env=pure none:=by rfl)
  (ho1:(assignEach [.Subscript (.Name x px) i tpos] X.env).map (·.2)=[assign (.Subscript (.Name x px) i tpos) X.env]:=by rfl) :
  mD X E μ r (.Assign [.Subscript (.Name x px) i tpos] e pos) (lK j fi f):=by
 intro pins s σ Ge B G H p fp I R ho
 have hslot:∃ l,p[j]?=some (some (.lst l)):=by
  unfold lK at ho
  split at ho
  ·rename_i l q; exact ⟨l,q⟩
  ·exact ho.elim
 obtain ⟨l,hr⟩:=hslot
 have eo:lK j fi f p=(f p).out fun d=>(fi p).out fun i=>rb j l p d i:=by
  unfold lK
  rw [hr]
 rw [eo] at ho ⊢
 have hp:=EM (pos:=pos) (tu h) (EG (pos:=tpos) (iq (pos:=px) hN hv hd hcd) (fL hi) zI ha) hs hw ho1
 refine aT (hp pins s σ H { nx:=fun σ' H'=>∃ O G' P,((f p).out fun d=>(fi p).out fun i=>rb j l p d i)= .nx O∧σ'=σ∧Rw X.K μ Ge B G' H' σ O P∧Same G G',bk:=fun _ _=>False,ct:=fun _ _=>False,rt:=fun _ _=>False } I ⟨Ge,B,G,p,fp,R,ho.res,fun d ed v G1 H1 S R1 sg sh o w=> ?_⟩) fun fl s1 J=> ?_
 ·have k:=ho.res2 ed (Same.refl B)
  refine jA (R1.top hr hm) fun a xs T h1 h2 h3 h4=> ?_
  refine ⟨_,h1,oV fp G1 H1,p,R1.vh,R1.ro,k.res.le R1.bh,fun di ei vi G3 H3 x3 ri=> ?_⟩
  have kk:=k.res2 ei (Same.refl B)
  have e0:((f p).out fun d=>(fi p).out fun i=>rb j l p d i)=rb j l p d di:=by rw [bV ed,bV ei]
  unfold rb at kk
  split at kk
  ·rename_i k0
   rw [rep_int] at ri
   subst ri
   cases q:sJ l.length k0 with
   | none=>rw [q] at kk; exact kk.elim
   | some m=>
    have e0:=e0.trans (show rb j l p d (.int k0)= .nx (p.set j (some (.lst (l.set m d)))) by unfold rb; dsimp only; rw [q])
    have hml:m < l.length:=(qO q).2.1
    have R3:=R1.grow x3
    refine jA (R3.top hr hm) fun a2 xs2 T2 g1 g2 g3 g4=> ?_
    rw [h1] at g1
    cases g1
    rw [x3.hh _ _ h2] at g2
    cases g2
    have hc:∀ b∈S,∃ u,H1 b=some u∧¬ oK u:=fun b hb=>let ⟨u,e,c⟩:=o.cell b hb; ⟨u,e,c.nokey⟩
    have w3:=w.keep hc (fun i b hb=>R.apart w i b hb) x3
    obtain ⟨P,R4⟩:=R3.set1 (d:=d) (v:=v) hm h1 (x3.hh _ _ h2) g3 g4 (cC hml) (o.mono (R1.gg x3) fun b _ u e=>x3.hh b u e) w.1 (R3.freshOf w3 R)
    exact ⟨a,xs,k0,m,rfl,rfl,x3.hh _ _ h2,by rw [← h4.length]; exact q,_,_,P,e0,rfl,R4,sg.trans (R1.gg x3)⟩
  ·exact kk.elim
 ·cases fl with
  | next=>
   obtain ⟨σ',H',I',O,G',P,e1,e2,R',sg⟩:=J
   subst e2
   exact ⟨O,_,G',H',P,e1,I',R',sg⟩
  | brk=>obtain ⟨_,_,_,J⟩:=J; exact J.elim
  | cont=>obtain ⟨_,_,_,J⟩:=J; exact J.elim
  | ret u=>obtain ⟨_,_,_,_,_,J⟩:=J; exact J.elim
noncomputable def rf (j:Nat)(l:List D)(ρ:DS)(d i:D):Out:=match i with
 | .int k=>(match sJ l.length k with
  | some m=>(match l[m]? with
   | some (.lst row)=>if aX row.length=true then .nx (ρ.set j (some (.lst (l.set m (.lst (row ++ [d])))))) else .bad
   | _=> .bad)
  | none=> .bad)
 | _=> .bad
noncomputable def tK (j:Nat)(fi f:DS→Res D):DS→Out:=fun ρ=>match ρ[j]? with
 | some (some (.lst l))=>(fi ρ).out fun i=>(f ρ).out fun d=>rf j l ρ d i
 | _=> .bad
theorem xB {j:Nat}{x:Str}{i e:Expr}{px spos apos cpos pos:Pos}{fi f:DS→Res D}(hm:μ.getD j 0=n+2)(hN:X.N[j]?=some x)(hv:xP X.env.scope x)(hi:PD X E i fi)(h:PZ X E μ n e f)(hex:∀ ρ c,f ρ≠ .exc c)
  (hd:(x == ("__debug__" :Str))=false:=by decide) (hcd:(x == ("__classdict__" :Str))=false:=by decide)
  (hpi:qj i:=by intro _ _; rfl)
  (hs:starEach [e] X.env=(false,eval e X.env) :: starEach [] X.env:=by rfl)
  (hbase:attributeBase (.Subscript (.Name x px) i spos) "append" X.env (eval (.Subscript (.Name x px) i spos) X.env)=eval (.Subscript (.Name x px) i spos) X.env:=by rfl)
  (hfew:((backTo cpos (starEach [e] X.env)).all (fun x=> !x.1) && (backToKw cpos (keywordEach [] X.env)).all (fun x=>x.1.isSome) && decide (([e].length+([]:List Keyword).length+if ([]:List Keyword).isEmpty=true then 0 else 1) < 30))=true:=by rfl)
  (hline:(apos.endLine == cpos.line)=true:=by rfl)
  (hsw:swapsWith (.Call (.Attribute (.Subscript (.Name x px) i spos) "append" apos) [e] [] cpos) none pos.line X.env=pure false:=by rfl) :
  mD X E μ r (.Expr (.Call (.Attribute (.Subscript (.Name x px) i spos) "append" apos) [e] [] cpos) pos) (tK j fi f):=by
 intro pins s σ Ge B G H ρ fp I R ho
 have hp:=vY (apos:=apos) (cpos:=cpos) (r:=iu) PySem.F.plainAttrs_list PySem.F.slot_list_append PySem.F.type_list_append (show Fp X "list.append" iu from lE) (CC (pos:=spos) ix_list (iq (pos:=px) hN hv hd hcd) (fL hi) hpi) (il (tu h) lG hs) hbase hfew hline hs rfl
 have hslot:∃ l,ρ[j]?=some (some (.lst l)):=by
  unfold tK at ho
  split at ho
  ·rename_i l q; exact ⟨l,q⟩
  ·exact ho.elim
 obtain ⟨l,hr⟩:=hslot
 have eo:tK j fi f ρ=(fi ρ).out fun i=>(f ρ).out fun d=>rf j l ρ d i:=by
  unfold tK
  rw [hr]
 rw [eo] at ho ⊢
 refine jA (R.top hr hm) fun a xs T h1 h2 h3 h4=> ?_
 refine aT (jq hp hsw pins s σ H { nx:=fun σ' H'=>∃ Q G' P,((fi ρ).out fun i=>(f ρ).out fun d=>rf j l ρ d i)= .nx Q∧σ'=σ∧Rw X.K μ Ge B G' H' σ Q P∧Same G G',bk:=fun _ _=>False,ct:=fun _ _=>False,rt:=fun _ _=>False } I ⟨_,h1,oV fp G H,ρ,R.vh,R.ro,ho.res.le R.bh,fun di ei vi G1 H1 x1 ri=> ?_⟩) fun fl s1 O=> ?_
 ·have k:=ho.res2 ei (Same.refl B)
  have R1:=R.grow x1
  have hfd:∃ d,f ρ= .ok d:=by
   cases q:f ρ with
   | ok d=>exact ⟨d,rfl⟩
   | exc c=>exact absurd q (hex ρ c)
   | bad=>rw [q] at k; exact k.elim
  obtain ⟨d0,ed0⟩:=hfd
  have M:=k.res2 ed0 (Same.refl B)
  have e0:((fi ρ).out fun i=>(f ρ).out fun d=>rf j l ρ d i)=rf j l ρ d0 di:=by rw [bV ei,bV ed0]
  unfold rf at M
  split at M
  ·rename_i k0
   rw [rep_int] at ri
   subst ri
   cases q:sJ l.length k0 with
   | none=>rw [q] at M; exact M.elim
   | some m=>
    rw [q] at M
    dsimp only at M
    split at M
    ·rename_i row L
     by_cases hc:aX row.length=true
     ·have e0:=e0.trans (show rf j l ρ d0 (.int k0)= .nx (ρ.set j (some (.lst (l.set m (.lst (row ++ [d0])))))) by unfold rf; dsimp only; rw [q]; dsimp only; rw [L]; exact if_pos hc)
      refine He (R.row (row':=[]) (ys':=[]) hm h1 h2 h3 h4 L) fun b ys U c1 c2 c3 c4 c5 c6 c7 _=> ?_
      refine (Bc a xs k0 (.ref b) rfl rfl (.inl (.inl (x1.hh _ _ h2))) (by unfold L2.atI; rw [← h4.length,q]; exact c1) (.inl ⟨rfl,ys,.inl (.inl (x1.hh _ _ c2))⟩) ⟨Ge,B,_,ρ,fp,R1,k.res,fun d ed v G2 H2 S R2 sg sh o w=> ?_⟩)
      rw [ed0] at ed
      cases ed
      refine (oJ b ys v rfl rfl (sh _ _ (x1.hh _ _ c2)) (by rw [← c3.length]; exact ky hc) ?_)
      refine jA (R2.top hr hm) fun a2 xs2 T2 g1 g2 g3 g4=> ?_
      rw [h1] at g1
      cases g1
      rw [sh _ _ (x1.hh _ _ h2)] at g2
      cases g2
      refine He (R2.row (row':=row ++ [d0]) (ys':=ys ++ [v]) hm h1 (sh _ _ (x1.hh _ _ h2)) g3 g4 L) fun b2 ys2 U2 p1 p2 p3 p4 p5 p6 p7 p8=> ?_
      rw [c1] at p1
      cases p1
      rw [sh _ _ (x1.hh _ _ c2)] at p2
      cases p2
      have fr:=R2.freshOf w R1
      have neU:∀ c,c∈U2→c≠b:=fun c J z=>p5 (z ▸ J)
      have neS:∀ c,c∈S→c≠b:=fun c J z=>(fr c J).2 j (z ▸ p6)
      obtain ⟨P,R3⟩:=p8 (U2 ++ S) (.append (p3.mono fun d v A _ hA z=>z.mono (.refl _) fun c J u e=>by rw [al (neU c (hA c J))]; exact e) (.one (o.mono (.refl _) fun c J u e=>by rw [al (neS c J)]; exact e))) (List.nodup_append.mpr ⟨p4,w.1,fun c J c2 hc2 e=>by subst e; exact (fr c hc2).2 j (p7 c J)⟩) (fun c J=>(List.mem_append.mp J).imp id (fr c))
      exact (jT _ _ P e0 rfl R3 ((R.gg x1).trans sg))
     ·rw [if_neg hc] at M; exact M.elim
    ·exact M.elim
  ·exact M.elim
 ·cases fl with
  | next=>
   obtain ⟨σ',H',I',Q,G',P,e1,e2,R',sg⟩:=O
   subst e2
   exact ⟨Q,_,G',H',P,e1,I',R',sg⟩
  | brk=>obtain ⟨_,_,_,O⟩:=O; exact O.elim
  | cont=>obtain ⟨_,_,_,O⟩:=O; exact O.elim
  | ret u=>obtain ⟨_,_,_,_,_,O⟩:=O; exact O.elim
end
section
variable{prog:Program}{w:World}{A:Around}{R:Result→Shared→Prop}{I S:Addr}{fp wr:List Addr}{n:Nat}{P:Nat→Value→Prop}{St:Nat→Heap→Prop}{C:Heap→Prop}
noncomputable def CM (prog:Program)(w:World)(A:Around)(C:Heap→Prop)(P:Nat→Value→Prop)(bt:Nat→Nat→Bool):Prop:=
 ∀ i j vi vj (s:Shared) (Q:Value→Shared→Prop) (E:Value→Shared→Prop),C s.heap→P i vi→P j vj→Q (.bool (bt i j)) s→wpAny (model prog w) A (richCompare .Lt vi vj) Q E s
noncomputable def Cn (wr:List Addr)(S:Addr)(C:Heap→Prop):Prop:=∀ h h',C h→(∀ b o,b∉wr→b≠S→h.get? b=some o→h'.get? b=some o)→C h'
theorem yX (W:Walks prog w A.in1 I fp wr n P St)(bt:Nat→Nat→Bool)(hcmp:CM prog w A.in1 C P bt)(hC:Cn wr S C)(hSf:S∉fp) :
  ∀ (k j:Nat) (s:Shared) (vb:Value) (c:Nat),n - (j+1)=k→j+1≤n→St (j+1) s.heap→C s.heap→P (argBest bt j) vb→
  s.heap.get? S=some { cls:= .type "list",dict:=none,data:= .seq #[vb,vb] c,slots:= #[] }→
  (∀ v h' tk,P (argBest bt (n - 1)) v→(∀ b o,b∉wr→b≠S→s.heap.get? b=some o→h'.get? b=some o)→R (.ok (.ret v)) { s with heap:=h',toks:=tk })→
  codeAny (model prog w) A (.builtin "min.loop" ⟨[.ref I,.none,.ref S],[]⟩) R s:=by
 have hSw:S∉wr:=fun h=>hSf (W.sub _ h)
 have Q:(toString "min" ++ toString ".loop" :String)= "min.loop" :=by decide
 intro k
 induction k with
 | zero=>
  intro j s vb c hk hj hst hc U hS hR
  have hin:j+1=n:=by omega
  refine codeAny_builtin PySem.F.entry_min_loop ?_
  rw [Around.under_plainId PySem.F.plain_min_loop _]
  show wpAny _ A.in1 (seqItems? (.ref S) >>= _) _ _ s
  refine wpAny_bind (wpAny_seqItems hS rfl ?_)
  show wpAny _ A.in1 (tryCatch (pyNext (.ref I)) _ >>= _) _ _ s
  refine wpAny_bind (wpAny_tryCatch (W.done s _ _ (hin ▸ hst) fun h' tk N=> ?_))
  have hS':=N S _ hSw hS
  show wpAny _ A.in1 (updateSeq S (fun _=> #[]) >>= _) _ _ _
  refine wpAny_bind ?_
  refine wpAny_updateSeq hS' rfl (wpAny_bind (wpAny_letGo (wpAny_pure ?_)))
  refine hR vb _ tk (by rw [← hin]; exact U) fun b o L M e=>(Heap.get?_update_other _ _ (Ne.symm M)).trans (N b o L e)
 | succ k ih=>
  intro j s vb c hk hj hst hc U hS hR
  have hlt:j+1 < n:=by omega
  refine codeAny_builtin PySem.F.entry_min_loop ?_
  rw [Around.under_plainId PySem.F.plain_min_loop _]
  show wpAny _ A.in1 (seqItems? (.ref S) >>= _) _ _ s
  refine wpAny_bind (wpAny_seqItems hS rfl ?_)
  show wpAny _ A.in1 (tryCatch (pyNext (.ref I)) _ >>= _) _ _ s
  refine wpAny_bind (wpAny_tryCatch (W.item (j+1) s _ _ hlt hst fun v h' tk hP hst' N=> ?_))
  have hS':=N S _ hSw hS
  have hc':C h':=hC _ _ hc fun b o L _ e=>N b o L e
  show wpAny _ A.in1 (tryCatch (holding [v,v] (richCompare .Lt v vb >>= _)) _ >>= _) _ _ _
  refine wpAny_bind (wpAny_tryCatch (wpAny_holding (wpAny_bind (hcmp (j+1) (argBest bt j) v vb { s with heap:=h',toks:=tk } _ _ hc' hP U ?_))))
  refine wpAny_bind (wpAny_holding (wpAny_truthy_bool ?_))
  refine wpAny_bind (wpAny_letGo (wpAny_pure ?_))
  cases hb:bt (j+1) (argBest bt j) with
  | true=>
   simp only [if_true]
   refine wpAny_bind ?_
   refine wpAny_updateSeq hS' rfl (wpAny_bind (wpAny_letGo ?_))
   rw [Q]
   refine wpAny_pure ⟨plainId_quiet PySem.F.plain_min_loop _,ih (j+1) _ v _ (by omega) hlt (W.frame _ _ _ hst' fun b hbf o e=> ?_) (hC _ _ hc' fun b o _ M e=>(Heap.get?_update_other _ _ (Ne.symm M)).trans e) (by simp only [argBest,hb,if_true]; exact hP) (Heap.get?_update_self _ hS' rfl)
    fun v' h'' T hP' O=> ?_⟩
   ·exact (Heap.get?_update_other _ _ (fun h:S=b=>hSf (by rw [h]; exact hbf))).trans e
   ·exact hR v' h'' T hP' fun b o L M e=>O b o L M ((Heap.get?_update_other _ _ (Ne.symm M)).trans (N b o L e))
  | false=>
   simp only [Bool.false_eq_true,if_false]
   refine wpAny_bind (wpAny_letGo ?_)
   rw [Q]
   refine wpAny_pure ⟨plainId_quiet PySem.F.plain_min_loop _,ih (j+1) _ vb c (by omega) hlt hst' hc' (by simp only [argBest,hb,Bool.false_eq_true,if_false]; exact U) hS' fun v' h'' T hP' O=> ?_⟩
   exact hR v' h'' T hP' fun b o L M e=>O b o L M (N b o L e)
theorem xr (W:Walks prog w A.in1 I fp wr n P St)(bt:Nat→Nat→Bool)(hcmp:CM prog w A.in1 C P bt)(hC:Cn wr S C)(hSf:S∉fp)(hn:0 < n){s:Shared}{c:Nat}(hst:St 0 s.heap)(hc:C s.heap)
  (hS:s.heap.get? S=some { cls:= .type "list",dict:=none,data:= .seq #[] c,slots:= #[] })
  (hR:∀ v h' tk,P (argBest bt (n - 1)) v→(∀ b o,b∉wr→b≠S→s.heap.get? b=some o→h'.get? b=some o)→R (.ok (.ret v)) { s with heap:=h',toks:=tk }) :
  codeAny (model prog w) A (.builtin "min.loop" ⟨[.ref I,.none,.ref S],[]⟩) R s:=by
 have hSw:S∉wr:=fun h=>hSf (W.sub _ h)
 have hname:(toString "min" ++ toString ".loop" :String)= "min.loop" :=by decide
 refine codeAny_builtin PySem.F.entry_min_loop ?_
 rw [Around.under_plainId PySem.F.plain_min_loop _]
 show wpAny _ A.in1 (seqItems? (.ref S) >>= _) _ _ s
 refine wpAny_bind (wpAny_seqItems hS rfl ?_)
 show wpAny _ A.in1 (tryCatch (pyNext (.ref I)) _ >>= _) _ _ s
 refine wpAny_bind (wpAny_tryCatch (W.item 0 s _ _ hn hst fun v h' tk hP hst' hk'=> ?_))
 have hS':=hk' S _ hSw hS
 have hc':C h':=hC _ _ hc fun b o L _ e=>hk' b o L e
 show wpAny _ A.in1 (updateSeq S (fun _=> #[v,v]) >>= _) _ _ _
 refine wpAny_bind ?_
 refine wpAny_updateSeq hS' rfl ?_
 rw [hname]
 refine wpAny_pure ⟨plainId_quiet PySem.F.plain_min_loop _,yX W bt hcmp hC hSf _ 0 _ v _ rfl hn (W.frame _ _ _ hst' fun b hbf o e=> ?_) (hC _ _ hc' fun b o _ M e=>(Heap.get?_update_other _ _ (Ne.symm M)).trans e) hP (Heap.get?_update_self _ hS' rfl) fun v' h'' tk'' hP' hk''=> ?_⟩
 ·exact (Heap.get?_update_other _ _ (fun h:S=b=>hSf (by rw [h]; exact hbf))).trans e
 ·exact hR v' h'' tk'' hP' fun b o L M e=>hk'' b o L M ((Heap.get?_update_other _ _ (Ne.symm M)).trans (hk' b o L e))
end
section
variable{prog:Program}{w:World}{A:Around}{E:Value→Shared→Prop}{s:Shared}
theorem yZ {l:Addr}{its:Array Value}{C:Heap→Prop}{bt:Nat→Nat→Bool}{Q:Value→Shared→Prop}(hh:A.handled=none)(hl:s.heap.IsList l its)(hn:0 < its.size)(hcmp:CM prog w A.in1 C (fun i v=>its[i]?=some v) bt)(hc:C s.heap)
  (hC:∀ h h',C h→(∀ b o,b < s.heap.objs.size→h.get? b=some o→h'.get? b=some o)→C h')
  (h:∀ v h' tk,its[argBest bt (its.size - 1)]?=some v→(∀ b o,s.heap.get? b=some o→h'.get? b=some o)→Q v { s with heap:=h',toks:=tk }) :
  wpAny (model prog w) A (call (.builtin "min") [.ref l]) Q E s:=by
 have hname:(toString "min" ++ toString ".loop" :String)= "min.loop" :=by decide
 refine call_function_tree PySem.F.kind_min PySem.F.plain_min PySem.F.entry_min (PySem.F.args_min1 _) ?_
 show wpAny _ A.in1 (Builtin.Builtins.bindParams "min" ["key","default"] 0 ⟨[],[]⟩ >>= _) _ _ s
 refine wpAny_bind (wpAny_of_eq (show Builtin.Builtins.bindParams "min" ["key","default"] 0 ⟨[],[]⟩=pure [none,none] from rfl) ?_)
 refine wpAny_bind (wpAny_pure ?_)
 have hlt:l < s.heap.objs.size:=by obtain ⟨o,e,_⟩:=hl; exact Heap.lt_size e
 have hne:l≠s.heap.objs.size:=Nat.ne_of_lt hlt
 have hz:(s.heap.push { cls:= .type "list_iterator",data:= .fields #[.ref l,.int 0 0] }).objs.size=s.heap.objs.size+1:=Heap.size_push ..
 refine wpAny_bind (wpAny_pyIter_list hl ?_)
 refine wpAny_bind (wpAny_newObj_type ?_)
 rw [hname]
 have W:=Walks.list (prog:=prog) (w:=w) (A:=A.in1) hh s.heap.objs.size l hne its
 have old:∀ b o,s.heap.get? b=some o→b < s.heap.objs.size:=fun b o e=>Heap.lt_size e
 refine wpAny_pure ⟨plainId_quiet PySem.F.plain_min_loop _,xr (C:=C) W bt hcmp (fun h1 h2 c k=>hC h1 h2 c fun b o hb e=>k b o (fun z=> ?_) (fun z=> ?_) e) (fun z=> ?_) hn ?_ (hC _ _ hc fun b o _ e=>Heap.get?_push_of_some _ (Heap.get?_push_of_some _ e)) (Heap.get?_push_size _ rfl) fun v h2 tk hv hk=> ?_⟩
 ·have z:b=s.heap.objs.size:=by simpa using z
  rw [z] at hb; exact absurd hb (Nat.lt_irrefl _)
 ·rw [z] at hb
  have hb:(s.heap.push { cls:= .type "list_iterator",data:= .fields #[.ref l,.int 0 0] }).objs.size < s.heap.objs.size:=hb
  rw [hz] at hb; exact absurd hb (Nat.not_lt_of_le (Nat.le_succ _))
 ·have z:(s.heap.push { cls:= .type "list_iterator",data:= .fields #[.ref l,.int 0 0] }).objs.size=s.heap.objs.size∨(s.heap.push { cls:= .type "list_iterator",data:= .fields #[.ref l,.int 0 0] }).objs.size=l:=by simpa using z
  rw [hz] at z
  rcases z with z | z
  ·exact absurd z (Nat.succ_ne_self _)
  ·rw [← z] at hlt; exact absurd hlt (Nat.not_lt_of_le (Nat.le_succ _))
 ·obtain ⟨o,e,r⟩:=hl
  exact (oG (iI _ (Heap.get?_push_of_some _ (Heap.get?_push_size _ rfl)) rfl rfl) o (Heap.get?_push_of_some _ (Heap.get?_push_of_some _ e)) r)
 ·refine h v h2 tk hv fun b o e=>hk b o (fun z=> ?_) (fun z=> ?_) (Heap.get?_push_of_some _ (Heap.get?_push_of_some _ e))
  ·have z:b=s.heap.objs.size:=by simpa using z
   exact absurd (old b o e) (by rw [z]; exact Nat.lt_irrefl _)
  ·have:=old b o e
   rw [z] at this
   have this:(s.heap.push { cls:= .type "list_iterator",data:= .fields #[.ref l,.int 0 0] }).objs.size < s.heap.objs.size:=this
   rw [hz] at this; exact absurd this (Nat.not_lt_of_le (Nat.le_succ _))
end
noncomputable def EX:D→Option (List Int)
 | .tup l=>allInts l
 | _=>none
noncomputable def fQ:List D→Option (List (List Int))
 | []=>some []
 | d :: ds=>match EX d,fQ ds with
  | some t,some ts=>some (t :: ts)
  | _,_=>none
theorem jJ:∀ {l:List D} {ts:List (List Int)},fQ l=some ts→l=ts.map fun t=> .tup (t.map D.int)
 | [],ts,h=>by unfold fQ at h; cases h; rfl
 | d :: ds,ts,h=>by
  unfold fQ at h
  split at h
  ·rename_i t us e1 e2
   cases h
   rw [List.map_cons,← jJ e2]
   unfold EX at e1
   split at e1
   ·rename_i l; rw [eX e1]
   ·cases e1
  ·cases h
theorem iR:∀ (ts:List (List Int)),fQ (ts.map fun t=> .tup (t.map D.int))=some ts
 | []=>rfl
 | t :: ts=>by
  rw [List.map_cons]
  unfold fQ
  rw [iR ts]
  unfold EX
  dsimp only
  rw [cV]
noncomputable def fR (t:List Int)(ts:List (List Int)):List Int:=ts.foldl (fun b u=>if HT.aM u b=true then u else b) t
noncomputable def i8:List D→Res D
 | [.lst l]=>match fQ l with | some (t :: ts)=> .ok (.tup ((fR t ts).map D.int)) | _=> .bad
 | _=> .bad
theorem vo (ts:List (List Int))(t:List Int):∀ k,k≤ts.length→(t :: ts)[argBest (fun i j=>HT.aM ((t :: ts).getD i []) ((t :: ts).getD j [])) k]?=some (fR t (ts.take k))
 | 0,_=>rfl
 | k+1,h=>by
  have ih:=vo ts t k (by omega)
  have hk:k < ts.length:=h
  have e1:(t :: ts).getD (k+1) []=ts[k]:=by simp [List.getD,hk]
  have e2:(t :: ts).getD (argBest (fun i j=>HT.aM ((t :: ts).getD i []) ((t :: ts).getD j [])) k) []=fR t (ts.take k):=by
   rw [List.getD_eq_getElem?_getD,ih]
   rfl
  have e3:ts.take (k+1)=ts.take k ++ [ts[k]]:=by rw [List.take_add_one]; simp [hk]
  have e4:fR t (ts.take (k+1))=if HT.aM ts[k] (fR t (ts.take k))=true then ts[k] else fR t (ts.take k):=by
   rw [e3]
   unfold fR
   rw [List.foldl_append]
   rfl
  rw [e4]
  unfold argBest
  rw [e1,e2]
  by_cases hb:HT.aM ts[k] (fR t (ts.take k))=true
  ·rw [if_pos hb,if_pos hb]
   simp [hk]
  ·rw [if_neg hb,if_neg hb]
   exact ih
section
variable{X:Cx}{E:XK}
noncomputable def uf (K:W.Frag)(H:Hp)(vs:List V)(ts:List (List Int)):Prop:=vs.length=ts.length∧∀ (i:Nat) (v:V) (t:List Int),vs[i]?=some v→ts[i]?=some t→∃ a,v= .ref a∧mE K H a (t.map V.int)
theorem wH (hc:X.calm=true)(hu:X.A.units+64 < cLine):dI X (.builtin "min") (fun xs H Q=>∃ p vs t ts,xs=[.ref p]∧gu X.K H p vs∧uf X.K H vs (t :: ts)∧∀ (v:V) (i:Nat),vs[i]?=some v→(t :: ts)[i]?=some (fR t ts)→Q v H):=by
 intro pins s σ H xs us Q I r h
 refine oY (h) fun p vs t ts hS136 sq hS137 q=> ?_; subst hS136; obtain ⟨hlen,htup⟩:=hS137
 obtain ⟨u,rfl,ru⟩:=je r
 cases (show u= .ref p from ru)
 refine cy (I.list sq) fun E rv pl _=> ?_
 have hl:=pl.isList
 have hil:E.length=ts.length+1:=by rw [← rv.length,hlen]; rfl
 have tup:∀ i u,E[i]?=some u→∃ a items,u= .ref a∧IsTup s.heap a items∧IntsAre items.toList ((t :: ts).getD i [])∧a < s.heap.objs.size:=fun i u hu=>by
  have hi:i < E.length:=(d7 hu).1
  have hi':i < (t :: ts).length:=by rw [List.length_cons]; omega
  have hiv:i < vs.length:=by rw [hlen]; exact hi'
  obtain ⟨u',S,T⟩:=rv.get (cC hiv)
  rw [hu] at S
  cases S
  obtain ⟨a,ea,sqa⟩:=htup i vs[i] (t :: ts)[i] (cC hiv) (cC hi')
  rw [ea] at T
  cases T
  refine cy (I.tuple sqa) fun its2 r2 p2 _=> ?_
  refine (lv a its2.toArray rfl p2 ?_ (by obtain ⟨o,e,_⟩:=p2; exact Heap.lt_size e))
  have:(t :: ts).getD i []=(t :: ts)[i]:=by rw [List.getD_eq_getElem?_getD,cC hi']; rfl
  rw [this]
  exact fu r2
 refine yZ (C:=fun h=>∀ i u,E[i]?=some u→∃ a items,u= .ref a∧IsTup h a items∧IntsAre items.toList ((t :: ts).getD i [])∧a < s.heap.objs.size) (bt:=fun i j=>HT.aM ((t :: ts).getD i []) ((t :: ts).getD j [])) (I.ok.hd hc) hl (by simp; omega) (fun i j vi vj s' Q' E' hC hi hj hQ=> ?_) tup (fun h h' hC k i u hu=> ?_) fun v h' tk hv hk=> ?_
 ·have hi:E[i]?=some vi:=by simpa using hi
  have hj:E[j]?=some vj:=by simpa using hj
  refine oC (hC i vi hi) fun a ia e1 p1 n1 _=> ?_
  refine oC (hC j vj hj) fun b ib e2 p2 n2 _=> ?_
  subst e1 e2
  exact HT.uE p1 p2 n1 n2 (show X.A.in1.units < cLine from Nat.lt_of_le_of_lt (by show X.A.units+1≤X.A.units+64; omega) hu) hQ
 ·refine oC (hC i u hu) fun a ia e1 p1 n1 l1=> ?_
  obtain ⟨o,e,c⟩:=p1
  exact (lv a ia e1 ⟨o,k a o l1 e,c⟩ n1 l1)
 ·have hsz:E.toArray.size - 1=ts.length:=by simp; omega
  rw [hsz] at hv
  have hb:=vo ts t ts.length (Nat.le_refl _)
  rw [List.take_length] at hb
  have hv:E[argBest (fun i j=>HT.aM ((t :: ts).getD i []) ((t :: ts).getD j [])) ts.length]?=some v:=by simpa using hv
  obtain ⟨hlt,_⟩:=d7 hv
  have hltv:argBest (fun i j=>HT.aM ((t :: ts).getD i []) ((t :: ts).getD j [])) ts.length < vs.length:=by rw [rv.length]; exact hlt
  obtain ⟨u',S,T⟩:=rv.get (cC hltv)
  rw [hv] at S
  cases S
  exact ⟨_,H,I.kept hk,T,q _ _ (cC hltv) hb⟩
theorem p_ {K:W.Frag}{G H:Hp}(hs:Same G H):∀ {ts:List (List Int)} {vs:List V},RepL K G (ts.map fun t=> .tup (t.map D.int)) vs→uf K H vs ts:=by
 intro ts vs rl
 refine ⟨by rw [← rl.length,List.length_map],fun i v t hv ht=> ?_⟩
 obtain ⟨w,hw,rw'⟩:=rl.get (i:=i) (d:= .tup (t.map D.int)) (by rw [List.getElem?_map,ht]; rfl)
 rw [hv] at hw
 cases hw
 rw [rep_tup] at rw'
 refine bA (rw') fun a xs hS138 sq rl2=> ?_; subst hS138
 rw [rl2.ints] at sq
 exact ⟨a,rfl,hs.seqT sq.sq⟩
theorem Bx {e:Expr}{p pos:Pos}{f:DS→Res D}(hu:X.A.units+64 < cLine)(hm:X.mg "min" =none)(h:PD X E e f)(hc:X.calm=true:=by rfl)(hg:Gl X "min" :=by rfl)(he:starEach [e] X.env=(false,eval e X.env) :: starEach [] X.env:=by rfl):PD X E (.Call (.Name "min" p) [e] [] pos) (fun ρ=>(f ρ).bind fun a=>i8 [a]):=by
 have key:PD X E (.Call (.Name "min" p) [e] [] pos) (bD (fun ρ=>(f ρ).bind fun d=>(Res.ok []:Res (List D)).bind fun ds=> .ok (d :: ds)) i8):=ee (wH hc hu) (fun G H vs ds Q hs rl ok k=>by
  unfold i8 at ok k
  split at ok
  ·rename_i l
   dsimp only at k
   split at ok
   ·rename_i t ts q
    rw [q] at k
    dsimp only at k
    have e:=jJ q
    subst e
    obtain ⟨v,r,rfl,rx,r0⟩:=rl.inv
    rw [r0.inv0]
    rw [rep_lst] at rx
    obtain ⟨pp,xs,rfl,sq,rx⟩:=rx
    refine ⟨pp,xs,t,ts,rfl,hs.seq sq.sq,p_ hs rx,fun v i hv ht=> ?_⟩
    obtain ⟨w,hw,rw'⟩:=rx.get (i:=i) (d:= .tup ((fR t ts).map D.int)) (by rw [List.getElem?_map,ht]; rfl)
    rw [hv] at hw
    cases hw
    exact k _ _ G H rfl (.refl hs) rw'
   ·exact ok.elim
  ·exact ok.elim) hg hm x0 (aa h af he) (by decide) (by decide) he rfl
 intro pins s σ G H ρ I hs hro ho
 have e0:∀ ρ,bD (fun ρ=>(f ρ).bind fun d=>(Res.ok []:Res (List D)).bind fun ds=> .ok (d :: ds)) i8 ρ=(f ρ).bind fun a=>i8 [a]:=fun ρ=>by
  show Res.bind (Res.bind (f ρ) _) _=_
  cases f ρ <;> rfl
 have:=key pins s σ G H ρ I hs hro (by rw [e0]; exact ho)
 rw [e0] at this
 exact this
end
noncomputable def og {α:Type}(n:Nat)(lt:Nat→Nat→Bool):W.KasT α→Option α
 | .ret a=>some a
 | .ask i j k=>if i < n∧j < n then og n lt (k (lt i j)) else none
theorem sK {α:Type}{cmp:Nat→Nat→(Bool→Shared→Prop)→Shared→Prop}{n:Nat}{lt:Nat→Nat→Bool}{s:Shared}(hc:∀ i j (Q:Bool→Shared→Prop),i < n→j < n→Q (lt i j) s→cmp i j Q s):∀ (t:W.KasT α) (p:α) (Q:α→Shared→Prop),og n lt t=some p→Q p s→t.kasWp cmp Q s
 | .ret a,p,Q,h,q=>by unfold og at h; cases h; exact q
 | .ask i j k,p,Q,h,q=>by
  unfold og at h
  split at h
  ·rename_i hb
   exact hc i j _ hb.1 hb.2 (sK hc (k (lt i j)) p Q h q)
  ·cases h
section
variable{prog:Program}{w:World}{A:Around}{E:Value→Shared→Prop}{s:Shared}
theorem sM {b fin:Bool}{Q:Bool→Shared→Prop}:∀ {vs ws:List Value} {ns ms:List Int} (i:Nat),IntsAre vs ns→IntsAre ws ms→fin=decide (ns.length < ms.length)→Q (HT.aM ns ms) s→W.KatLex prog w A b fin Q (vs.zip ws) i s
 | _,_,_,_,i,.nil,.nil,hf,h=>by
  rw [HT.jE] at h
  rw [List.zip_nil_left]
  exact W.kat_nil (by rw [hf]; exact h)
 | _,_,_,_,i,.nil,.cons n t h2,hf,h=>by
  rw [HT.i5] at h
  rw [List.zip_nil_left]
  exact W.kat_nil (by rw [hf]; simpa using h)
 | _,_,_,_,i,.cons n t h1,.nil,hf,h=>by
  rw [HT.i4] at h
  rw [List.zip_nil_right]
  exact W.kat_nil (by rw [hf]; simpa using h)
 | _,_,_,_,i,.cons n t h1,.cons m u h2,hf,h=>by
  rw [HT.nK] at h
  rw [List.zip_cons_cons]
  refine W.kat_cons (wpAny_eqBool_int ?_)
  by_cases e:n=m
  ·rw [if_pos e] at h
   have e':(n == m)=true:=by simp [e]
   rw [e']
   exact W.kat_yes (sM (i+1) h1 h2 (by rw [hf]; simp) h)
  ·rw [if_neg e] at h
   have e':(n == m)=false:=beq_eq_false_iff_ne.mpr e
   rw [e']
   refine W.kat_no ?_
   cases hb:(b && i == 0) with
   | true=>exact oneLt_int h
   | false=>exact W.kat_one _ _ (lt_int (by exact h))
theorem BZ {x y:Addr}{xs ys:Array Value}{ns ms:List Int}{b:Bool}{Q:Bool→Shared→Prop}(hx:IsTup s.heap x xs)(hy:IsTup s.heap y ys)(ix:IntsAre xs.toList ns)(iy:IntsAre ys.toList ms)(h:Q (HT.aM ns ms) s):wpAny (model prog w) A (keyLt' (tuples' b) (.ref x) (.ref y)) Q E s:=by
 refine xN (hx) fun ox hox _ n dx=> ?_
 refine xN (hy) fun oy hoy _ k dy=> ?_
 refine W.kat_lt hox dx hoy dy (sM 0 ix iy ?_ h)
 have h1:=ix.length
 have h2:=iy.length
 rw [Array.length_toList] at h1 h2
 rw [h1,h2]
noncomputable def TupsIn (h:Heap)(vs:List Value)(ts:List (List Int)):Prop:=vs.length=ts.length∧∀ (i:Nat) (v:Value),vs[i]?=some v→∃ b items,v= .ref b∧IsTup h b items∧IntsAre items.toList (ts.getD i [])∧ts.getD i []≠[]
theorem TupsIn.keep {h h':Heap}{vs:List Value}{ts:List (List Int)}(x:TupsIn h vs ts)(k:∀ b o,h.get? b=some o→o.cls= .type "tuple" →h'.get? b=some o):TupsIn h' vs ts:=⟨x.1,fun i v hv=>by
 refine bA (x.2 i v hv) fun b items e hS139 r=> ?_; obtain ⟨o,ho,hc,hd⟩:=hS139
 exact (dJ b items e (iI o (k b o ho hc) hc hd) r)⟩
theorem nE {h:Heap}:∀ {vs:List Value} {ts:List (List Int)},TupsIn h vs ts→∃ fs:List Value,W.KatTups h vs fs∧fs.length=vs.length∧∀ v∈fs,∃ n t,v= .int n t
 | [],ts,_=>(iI ([]) .nil rfl (fun v hv=>nomatch hv))
 | v :: vs,ts,x=>by
  obtain ⟨t,U,rfl⟩:∃ t U,ts=t :: U:=by
   match ts,x.1 with
   | [],h=>simp at h
   | t :: U,_=>exact ⟨t,U,rfl⟩
  refine oC (x.2 0 v rfl) fun b V e hS140 hi hne=> ?_; obtain ⟨o,ho,hc,nn,hd⟩:=hS140
  have hi:IntsAre V.toList t:=hi
  have hne:t≠[]:=hne
  refine cy (nE (vs:=vs) (ts:=U) ⟨by have:=x.1; simpa using this,fun i u hu=>x.2 (i+1) u (by simpa using hu)⟩) fun fs h1 h2 h3=> ?_
  subst e
  cases q:V.toList with
  | nil=>rw [q] at hi; cases hi; exact absurd rfl hne
  | cons f r=>
   rw [q] at hi
   cases hi with
   | cons n tk hi'=>
    refine (iI (.int n tk :: fs) (.cons ho hc hd ?_ h1) (by simp [h2]) (fun u hu=> ?_))
    ·rw [← Array.getElem?_toList,q]; rfl
    ·rcases List.mem_cons.mp hu with z | z
     ·exact ⟨n,tk,z⟩
     ·exact h3 u z
theorem oP {a:Addr}{vs:List Value}{n:Nat}{P:Fin→Shared→Prop}(ho:s.heap.get? a=some (seqObj "list" vs.toArray n))(h1:vs.length < 2)(h:P (.done (.ret .none)) { s with heap:=sortedHeap s.heap a vs vs.toArray }):wpAny (model prog w) A (Builtin.«list.sort» ⟨[.ref a],[]⟩) P E s:=by
 rw [list_sort_plain]
 have ha:a < s.heap.objs.size:=Heap.lt_size ho
 refine wpAny_bind (listItems_at ho rfl ?_)
 refine wpAny_bind (listUpdate_at ho rfl ?_ (by rw [List.size_toArray,sizeLine_eq]; omega) (Nat.zero_le _))
 obtain ⟨e1,ho1⟩:∃ e1,(s.heap.update a (Obj.mapSeq fun _=> #[])).get? a=some (seqObj "list" #[] e1):=⟨_,get?_update_seq ho (fun _=> #[])⟩
 refine wpAny_bind (seqEpoch_at ho1 rfl ?_)
 refine wpAny_bind (wpAny_newTuple ?_ (by show vs.length≤_; rw [sizeLine_eq]; omega))
 refine wpAny_bind (wpAny_newList ?_ (Nat.zero_le _))
 refine wpAny_holding ?_
 have ho6:(((s.heap.update a (Obj.mapSeq fun _=> #[])).push (seqObj "tuple" vs.toArray 0)).push (seqObj "list" #[] 0)).get? a=some (seqObj "list" #[] e1):=Heap.get?_push_of_some _ (Heap.get?_push_of_some _ ho1)
 show wpAny (model prog w) A _ P E { s with heap:=((s.heap.update a (Obj.mapSeq fun _=> #[])).push (seqObj "tuple" vs.toArray 0)).push (seqObj "list" #[] 0) }
 dsimp only
 have h2:vs.toArray.size < 2:=by rw [List.size_toArray]; exact h1
 rw [if_pos h2,if_pos h2]
 refine wpAny_bind (wpAny_pure ?_)
 rw [StateT.run_pure]
 refine wpAny_bind (wpAny_pure ?_)
 dsimp only
 refine wpAny_bind (seqEpoch_at ho6 rfl ?_)
 have hz:(arrOf (SortSt.mk' general' (vs.toArray.zip vs.toArray) #[] 7 none)).map (·.2)=vs.toArray:=by
  show (vs.toArray.zip vs.toArray).map (·.2)=vs.toArray
  apply Array.toList_inj.mp
  simp [List.map_snd_zip]
 rw [hz]
 refine wpAny_bind (listUpdate_at ho6 rfl ?_ (Nat.zero_le _) (by rw [List.size_toArray,sizeLine_eq]; omega))
 simp only [bne_self_eq_false,Bool.false_eq_true,if_false]
 exact wpAny_pure h
theorem nO {a:Addr}{vs:List Value}{ts:List (List Int)}{n:Nat}{p:Array Nat}{P:Fin→Shared→Prop}(ho:s.heap.get? a=some (seqObj "list" vs.toArray n))(hT:TupsIn s.heap vs ts)(h2:2≤vs.length)(h64:vs.length < 64)
  (hr:og vs.length (fun i j=>HT.aM (ts.getD i []) (ts.getD j [])) (W.kas_sort vs.length)=some p) (h:P (.done (.ret .none)) { s with heap:=sortedHeap s.heap a vs (List.toArray (p.toList.map fun i=>vs.getD i Value.none)) }) (hp:p.size=vs.length):wpAny (model prog w) A (Builtin.«list.sort» ⟨[.ref a],[]⟩) P E s:=by
 rw [list_sort_plain]
 have ha:a < s.heap.objs.size:=Heap.lt_size ho
 refine wpAny_bind (listItems_at ho rfl ?_)
 refine wpAny_bind (listUpdate_at ho rfl ?_ (by rw [List.size_toArray,sizeLine_eq]; omega) (Nat.zero_le _))
 obtain ⟨e1,ho1⟩:∃ e1,(s.heap.update a (Obj.mapSeq fun _=> #[])).get? a=some (seqObj "list" #[] e1):=⟨_,get?_update_seq ho (fun _=> #[])⟩
 refine wpAny_bind (seqEpoch_at ho1 rfl ?_)
 refine wpAny_bind (wpAny_newTuple ?_ (by show vs.length≤_; rw [sizeLine_eq]; omega))
 refine wpAny_bind (wpAny_newList ?_ (Nat.zero_le _))
 refine wpAny_holding ?_
 have ho6:(((s.heap.update a (Obj.mapSeq fun _=> #[])).push (seqObj "tuple" vs.toArray 0)).push (seqObj "list" #[] 0)).get? a=some (seqObj "list" #[] e1):=Heap.get?_push_of_some _ (Heap.get?_push_of_some _ ho1)
 show wpAny (model prog w) A _ P E { s with heap:=((s.heap.update a (Obj.mapSeq fun _=> #[])).push (seqObj "tuple" vs.toArray 0)).push (seqObj "list" #[] 0) }
 dsimp only
 have hn2:¬ vs.toArray.size < 2:=by rw [List.size_toArray]; omega
 rw [if_neg hn2,if_neg hn2]
 have hT2:TupsIn (((s.heap.update a (Obj.mapSeq fun _=> #[])).push (seqObj "tuple" vs.toArray 0)).push (seqObj "list" #[] 0)) vs ts:=hT.keep fun b o e hc=>by
  have hb:b≠a:=fun z=>by rw [z,ho] at e; cases e; injection hc with hc; exact absurd hc (by decide)
  exact Heap.get?_push_of_some _ (Heap.get?_push_of_some _ ((Heap.get?_update_other _ _ (Ne.symm hb)).trans e))
 refine cy (nE hT2) fun fs k1 k2 k3=> ?_
 refine wpAny_bind (W.kat_kind (T:= .type "int") (s:={ s with heap:=((s.heap.update a (Obj.mapSeq fun _=> #[])).push (seqObj "tuple" vs.toArray 0)).push (seqObj "list" #[] 0) }) k1 (by omega) (fun v hv=> ?_) rfl ?_)
 ·obtain ⟨m,t,rfl⟩:=k3 v hv
  exact W.Looks.of_pure rfl
 ·refine wpAny_bind (wpAny_mono (W.kat_run (s:={ s with heap:=((s.heap.update a (Obj.mapSeq fun _=> #[])).push (seqObj "tuple" vs.toArray 0)).push (seqObj "list" #[] 0) }) (Q:=fun X s'=>arrOf X=p.map (W.kas_item (vs.toArray.zip vs.toArray))∧failedOf X=none∧s'={ s with heap:=((s.heap.update a (Obj.mapSeq fun _=> #[])).push (seqObj "tuple" vs.toArray 0)).push (seqObj "list" #[] 0) })
   (G:=fun p' s'=>p'=p∧s'={ s with heap:=((s.heap.update a (Obj.mapSeq fun _=> #[])).push (seqObj "tuple" vs.toArray 0)).push (seqObj "list" #[] 0) }) rfl h2 h64 (fun p' X s' a1 a2 a3 a4=>⟨by rw [a2,a4.1],a3,a4.2⟩) (sK (fun i j Q hi hj hQ=> ?_) _ p _ hr ⟨rfl,rfl⟩)) ?_ fun _ _ e=>e)
  ·refine oC (hT2.2 i vs[i] (cC hi)) fun b ib e1' p1 n1 _=> ?_
   refine oC (hT2.2 j vs[j] (cC hj)) fun c ic e2' p2 n2 _=> ?_
   unfold W.kas_ask
   have g1:vs.getD i Value.none= .ref b:=by simp [hi,e1']
   have g2:vs.getD j Value.none= .ref c:=by simp [hj,e2']
   rw [g1,g2]
   exact BZ p1 p2 n1 n2 hQ
  ·rintro ⟨⟨⟩,X⟩ s' ⟨har,hf,rfl⟩
   dsimp only
   refine wpAny_bind (seqEpoch_at ho6 rfl ?_)
   have hout:=W.kat_snds (vs:=vs) rfl har
   rw [hout]
   refine wpAny_bind (listUpdate_at ho6 rfl ?_ (Nat.zero_le _) (by rw [List.size_toArray,List.length_map,Array.length_toList,hp,sizeLine_eq]; omega))
   rw [hf]
   simp only [bne_self_eq_false,Bool.false_eq_true,if_false]
   exact wpAny_pure h
theorem pX {l:Addr}{vs:List Value}{out:Array Value}{Q:Value→Shared→Prop}(hl:s.heap.IsList l vs.toArray)(hn:vs.length < 64)
  (hsort:∀ (s':Shared) (P:Fin→Shared→Prop) (E':Value→Shared→Prop) (A':Around) (a:Addr),(∀ b o,s.heap.get? b=some o→s'.heap.get? b=some o)→s'.heap.get? a=some (seqObj "list" vs.toArray 0)→P (.done (.ret .none)) { s' with heap:=sortedHeap s'.heap a vs out }→wpAny (model prog w) A' (Builtin.«list.sort» ⟨[.ref a],[]⟩) P E' s')
  (h:Q (.ref (s.heap.objs.size+1)) { s with heap:=sortedAll s.heap vs out }):wpAny (model prog w) A (call (.builtin "sorted") [.ref l]) Q E s:=by
 refine Calls.call_function_entry kind_sorted plain_sorted entry_sorted (args_sorted1 _) ?_
 unfold Builtin.«sorted»
 refine wpAny_bind (m:=checkCount "sorted" 1 1 _) (wpAny_pure ?_)
 refine wpAny_bind (collect_list hl ?_ (by rw [sizeLine_eq]; omega))
 refine wpAny_bind (wpAny_newList ?_ (by rw [sizeLine_eq]; omega))
 have hsz:((s.heap.push (seqObj "list" #[] 0)).update s.heap.objs.size (Obj.mapSeq (· ++ vs.toArray))).objs.size=s.heap.objs.size+1:=by
  rw [Heap.size_update,size_push']
 have hoL:(((s.heap.push (seqObj "list" #[] 0)).update s.heap.objs.size (Obj.mapSeq (· ++ vs.toArray))).push (seqObj "list" vs.toArray 0)).get? (s.heap.objs.size+1)=some (seqObj "list" vs.toArray 0):=by
  rw [← hsz]; exact Heap.get?_push_size _ rfl
 show wpAny _ _ _ _ _ { s with heap:=((s.heap.push (seqObj "list" #[] 0)).update s.heap.objs.size (Obj.mapSeq (· ++ vs.toArray))).push (seqObj "list" vs.toArray 0) }
 rw [hsz]
 refine wpAny_bind (wpAny_holding (wpAny_call_entry slot_list_sort ⟨_,hoL,rfl⟩ entry_list_sort (hsort { s with heap:=((s.heap.push (seqObj "list" #[] 0)).update s.heap.objs.size (Obj.mapSeq (· ++ vs.toArray))).push (seqObj "list" vs.toArray 0) } _ _ _ _ (fun b o e=> ?_) hoL ⟨_,rfl,?_⟩) (args_list_sort _)))
 ·have hlt:b < s.heap.objs.size:=Heap.lt_size e
  exact Heap.get?_push_of_some _ ((Heap.get?_update_other _ _ (Nat.ne_of_gt hlt)).trans (Heap.get?_push_of_some _ e))
 ·exact wpAny_pure ⟨_,rfl,h⟩
end
noncomputable def cU:List D→Res D
 | [.lst l]=>if l.length < 2 then .ok (.lst l) else (match fQ l with
  | some ts=>if (ts.all (fun t=> !t.isEmpty) && decide (ts.length < 64))=true then (match og ts.length (fun i j=>HT.aM (ts.getD i []) (ts.getD j [])) (W.kas_sort ts.length) with
   | some p=>if p.size=ts.length∧(p.toList.all fun i=>decide (i < ts.length))=true then .ok (.lst (p.toList.map fun i=> .tup ((ts.getD i []).map D.int))) else .bad
   | none=> .bad) else .bad
  | none=> .bad)
 | _=> .bad
section
variable{X:Cx}{E:XK}
theorem jS {pins:List (Addr×Obj)}{σ:St}{H:Hp}{s:Shared}{vs:List Value}{out:List Value}{ys:List V}{Q:VK}(I:Inv X pins σ H s)(rv:Vals ys out)(hz:ys.length≤sizeLine)(q:∀ p,H p=none→Q (.ref p) (br H p (.lst ys))):EP X pins σ Q (.ref (s.heap.objs.size+1)) { s with heap:=sortedAll s.heap vs out.toArray }:=by
 obtain ⟨e,he⟩:=sortedAll_at s.heap vs out.toArray
 have hn:=I.hok.fresh (Nat.le_succ s.heap.objs.size)
 refine ⟨.ref (s.heap.objs.size+1),_,I.laid (o:= .lst ys) (t':=s.toks) (fun b o q=>sortedAll_old q) (Nat.le_succ _) (nD hz out e rv he),rfl,q _ hn⟩
theorem uj:dI X (.builtin "sorted") (fun xs H Q=>∃ p vs,xs=[.ref p]∧gu X.K H p vs∧((vs.length < 2∧∀ l,H l=none→Q (.ref l) (br H l (.lst vs)))∨
  ∃ ts pr,uf X.K H vs ts∧(∀ t∈ts,t≠[])∧2≤ts.length∧ts.length < 64∧og ts.length (fun i j=>HT.aM (ts.getD i []) (ts.getD j [])) (W.kas_sort ts.length)=some pr∧pr.size=ts.length∧(∀ i∈pr.toList,i < ts.length)∧∀ l,H l=none→Q (.ref l) (br H l (.lst (pr.toList.map fun i=>vs.getD i .non))))):=by
 intro pins s σ H xs us Q I r h
 obtain ⟨p,vs,rfl,sq,h⟩:=h
 obtain ⟨u,rfl,ru⟩:=je r
 cases (show u= .ref p from ru)
 obtain ⟨E,rv,pl,hz⟩:=I.list sq
 have hil:=rv.length
 rcases h with ⟨hlt,q⟩ | ⟨ts,pr,⟨hlen,htup⟩,hne,h2,h64,hr,hps,hin,q⟩
 ·exact pX pl.isList (by omega) (fun s' P E' A' a _ ho h=>oP ho (by omega) h) (jS I rv hz q)
 ·have hit:E.length=ts.length:=by omega
  have T:TupsIn s.heap E ts:=⟨hit,fun i u hu=>by
   have hi:i < E.length:=(d7 hu).1
   have hi':i < ts.length:=by omega
   have Y:i < vs.length:=by omega
   obtain ⟨u',S,U⟩:=rv.get (cC Y)
   rw [hu] at S
   cases S
   obtain ⟨a,ea,sqa⟩:=htup i vs[i] ts[i] (cC Y) (cC hi')
   rw [ea] at U
   cases U
   obtain ⟨its2,r2,p2,_⟩:=I.tuple sqa
   have:ts.getD i []=ts[i]:=by rw [List.getD_eq_getElem?_getD,cC hi']; rfl
   rw [this]
   exact ⟨a,its2.toArray,rfl,p2,fu r2,hne _ (List.getElem_mem hi')⟩⟩
  have rv2:Vals (pr.toList.map fun i=>vs.getD i .non) (pr.toList.map fun i=>E.getD i Value.none):=by
   have go:∀ (l:List Nat),(∀ i∈l,i < ts.length)→Vals (l.map fun i=>vs.getD i .non) (l.map fun i=>E.getD i Value.none):=by
    intro l
    induction l with
    | nil=>intro _; exact .nil
    | cons i l ih=>
     intro hl
     have hi:=hl i (List.mem_cons_self ..)
     have Y:i < vs.length:=by omega
     obtain ⟨u',S,U⟩:=rv.get (cC Y)
     refine .cons ?_ (ih fun j hj=>hl j (cN hj))
     have e1:vs.getD i .non=vs[i]:=by rw [List.getD_eq_getElem?_getD,cC Y]; rfl
     have e2:E.getD i Value.none=u':=by rw [List.getD_eq_getElem?_getD,S]; rfl
     show RelV (vs.getD i .non) (E.getD i Value.none)
     rw [e1,e2]
     exact U
   exact go _ hin
  refine pX pl.isList (by omega) (fun s' P E' A' a k ho h=>nO (p:=pr) (ts:=ts) ho (T.keep fun b o e _=>k b o e) (by omega) (by omega) (by rw [hit]; exact hr) h (by omega)) (jS I rv2 (by rw [List.length_map,Array.length_toList,hps]; have:=sizeLine_eq; omega) q)
theorem zp {e:Expr}{p pos:Pos}{f:DS→Res D}(hm:X.mg "sorted" =none)(h:PD X E e f)(hg:Gl X "sorted" :=by rfl)(he:starEach [e] X.env=(false,eval e X.env) :: starEach [] X.env:=by rfl):PN X E 1 (.Call (.Name "sorted" p) [e] [] pos) (fun ρ=>(f ρ).bind fun a=>cU [a]):=by
 have hpd:mB X E [e] (fun ρ=>(f ρ).bind fun d=> .ok [d]):=aa h af he
 refine .tn (tt (x:= "sorted") (p:=p) (pos:=pos) uj hg hm boot_sorted (jz hpd) (by decide) (by decide) he rfl) fun σ G H ρ Q hs hro ho k=>⟨G,ρ,hs,hro,?_,fun ds e1 vs G1 H1 x1 p1=> ?_⟩
 ·have ho:=ho.fst
  show OkR E H ((f ρ).bind fun d=> .ok [d])
  cases q:f ρ with
  | ok d=>trivial
  | exc c=>rw [q] at ho; exact ho
  | bad=>rw [q] at ho; exact ho
 ·have ed:∃ d,f ρ= .ok d∧ds=[d]:=by
   have e1:((f ρ).bind fun d=>(.ok [d]:Res (List D)))= .ok ds:=e1
   cases q:f ρ with
   | ok d=>rw [q] at e1; cases e1; exact ⟨d,rfl,rfl⟩
   | exc c=>rw [q] at e1; cases e1
   | bad=>rw [q] at e1; cases e1
  obtain ⟨d,ed,rfl⟩:=ed
  have L:=ho.snd ed x1.hh
  have e0:((f ρ).bind fun a=>cU [a])=cU [d]:=by rw [ed]; rfl
  obtain ⟨v,r,rfl,rx,r0⟩:=p1.inv
  rw [r0.inv0]
  unfold cU at L
  split at L
  ·rename_i l hd
   cases hd
   rw [rep_lst] at rx
   obtain ⟨q,xs,rfl,sq,rx⟩:=rx
   refine ⟨q,xs,rfl,x1.gh.seq sq.sq,?_⟩
   by_cases hl:l.length < 2
   ·refine .inl ⟨by rw [← rx.length]; exact hl,fun m hm=> ?_⟩
    obtain ⟨x,o,w⟩:=qY x1 hm rx
    exact k _ (e0.trans (if_pos hl)) _ _ _ _ x o w
   ·rw [if_neg hl] at L
    split at L
    ·rename_i ts qt
     have el:=jJ qt
     split at L
     ·rename_i hc
      split at L
      ·rename_i pr hrun
       split at L
       ·rename_i hp
        rw [Bool.and_eq_true] at hc
        have hlen:l.length=ts.length:=by rw [el,List.length_map]
        have hin:∀ i∈pr.toList,i < ts.length:=fun i hi=>of_decide_eq_true (List.all_eq_true.mp hp.2 i hi)
        refine .inr ⟨ts,pr,p_ x1.gh (by rw [← el]; exact rx),fun t ht=> ?_,by omega,of_decide_eq_true hc.2,hrun,hp.1,hin,fun m hm=> ?_⟩
        ·have:=List.all_eq_true.mp hc.1 t ht
         intro z; rw [z] at this; cases this
        ·have rl:RepL X.K G1 (pr.toList.map fun i=> .tup ((ts.getD i []).map D.int)) (pr.toList.map fun i=>xs.getD i .non):=by
          have go:∀ (m:List Nat),(∀ i∈m,i < ts.length)→RepL X.K G1 (m.map fun i=> .tup ((ts.getD i []).map D.int)) (m.map fun i=>xs.getD i .non):=by
           intro m
           induction m with
           | nil=>intro _; exact .nil
           | cons i m ih=>
            intro hm
            have hi:=hm i (List.mem_cons_self ..)
            obtain ⟨v,hv,rv⟩:=rx.get (i:=i) (d:= .tup ((ts.getD i []).map D.int)) (by
             rw [el,List.getElem?_map,cC hi,List.getD_eq_getElem?_getD,cC hi]; rfl)
            refine .cons ?_ (ih fun j hj=>hm j (cN hj))
            have e2:xs.getD i .non=v:=by rw [List.getD_eq_getElem?_getD,hv]; rfl
            show Rep X.K G1 _ (xs.getD i .non)
            rw [e2]
            exact rv
          exact go _ hin
         obtain ⟨x,o,w⟩:=qY x1 hm rl
         refine k _ (e0.trans ?_) _ _ _ _ x o w
         show (if l.length < 2 then _ else _)=_
         rw [if_neg hl,qt]
         dsimp only
         rw [if_pos (by rw [Bool.and_eq_true]; exact hc),hrun]
         exact if_pos hp
       ·exact L.elim
      ·exact L.elim
     ·exact L.elim
    ·exact L.elim
  ·exact L.elim
end
section
variable{X:Cx}{E:XK}{μ:List Nat}{r n:Nat}
noncomputable def H_ (K:W.Frag)(te tk:TE):TE:=fun σ H Q=>te σ H fun x H1=>tk σ H1 fun k H2=>k= .int (-1)∧∃ a xs,x= .ref a∧gu K H2 a xs∧∀ p,H2 p=none→Q (.ref p) (br H2 p (.lst xs.reverse))
theorem ED {e st:Expr}{te tk:TE}{p2 pos:Pos}(he:PE X e te)(hk:PE X st tk):PE X (.Subscript e (.Slice none none (some st) p2) pos) (H_ X.K te tk):=by
 intro p s σ H Q I h
 refine Subscript_ (aT (he p s σ H _ I h) fun v s1 hZ157=> ?_)
 obtain ⟨x,H1,I1,r1,q1⟩:=hZ157
 refine wpAny_Slice ?_
 rw [evalPart_none,evalPart_some]
 refine wpAny_pure (wpAny_pure (aT (hk p s1 σ H1 _ I1 q1) fun vk s3 hZ158=> ?_))
 obtain ⟨k,H3,I3,rk,ek,a,xs,ea,sq,q3⟩:=hZ158
 subst ek ea
 cases r1
 obtain ⟨t,rfl⟩:=rk
 have I4:Inv X p σ H3 { s3 with heap:=s3.heap.push { cls:= .type "slice",data:= .fields #[.none,.none,.int (-1) t] } }:=I3.kept (t':=s3.toks) fun b ob q=>Heap.get?_push_of_some _ q
 refine cy (I4.list sq) fun its rv pl hz=> ?_
 show wpAny (model X.prog X.w) X.A (subscriptTail e (.Slice none none (some st) p2) (.ref a) (.ref s3.heap.objs.size)) (EP X p σ Q) X.xe { s3 with heap:=s3.heap.push { cls:= .type "slice",data:= .fields #[.none,.none,.int (-1) t] } }
 refine tail_any (ops:=[.ref a,.ref s3.heap.objs.size]) pl.isList.typeIs slot_list_getitem.lookup ?_ (by with_unfolding_all rfl)
 refine wpAny_getItem_list_slice (vs:= .int (-1) t) (st:=some (-1)) pl.isList (Heap.IsSliceOf.new ..) .none .none (.int _ _) (by decide) ?_ (by rw [List.size_toArray]; have:=rv.length; omega)
 rw [W.krv_pick]
 have hn:=I4.hok.fresh (Nat.le_refl _)
 have rr:Vals xs.reverse its.reverse:=by
  have go:∀ {xs:List V} {us:List Value},Vals xs us→Vals xs.reverse us.reverse:=by
   intro xs
   induction xs with
   | nil=>intro us h; cases h; exact .nil
   | cons x xs ih=>
    intro us h
    cases h with
    | cons r rr=>
     rw [List.reverse_cons,List.reverse_cons]
     exact (ih rr).append (.cons r .nil)
  exact go rv
 refine ⟨.ref _,_,I4.laid (t':=s3.toks) (o:= .lst xs.reverse) (fun b ob q=>Heap.get?_push_of_some _ q) (Nat.le_refl _) ?_,rfl,q3 _ hn⟩
 exact (nD (by rw [List.length_reverse]; exact hz) its.reverse 0 rr (Heap.get?_push_size _ rfl))
noncomputable def tH:D→D→Res D
 | .lst l,.int k=>if k= -1 then .ok (.lst l.reverse) else .bad
 | _,_=> .bad
theorem EL {e st:Expr}{f g:DS→Res D}{p2 pos:Pos}(he:PD X E e f)(hk:PD X E st g):PN X E 1 (.Subscript e (.Slice none none (some st) p2) pos) (ae f g tH):=by
 refine .tn (ED (pos:=pos) (p2:=p2) (fL he) (fL hk)) fun σ G H ρ Q hs hro ho k=>⟨G,ρ,hs,hro,ho.fst,fun d e1 v G1 H1 x1 p1=>⟨G1,ρ,x1.gh,hro.mono x1.gg,(ho.snd e1 x1.hh).fst,fun d2 e2 v2 G2 H2 x2 p2=> ?_⟩⟩
 have kk:=(ho.snd e1 x1.hh).snd e2 x2.hh
 have e0:ae f g tH ρ=tH d d2:=by unfold ae; rw [e1,aD,e2,aD]
 unfold tH at kk
 split at kk
 ·rename_i l kv
  split at kk
  ·rename_i hk1
   subst hk1
   rw [rep_lst] at p1
   rw [rep_int] at p2
   refine bA (p1) fun a xs hS141 sq rl=> ?_; subst hS141
   refine (DP p2 a xs rfl (x2.hh.seq (x1.gh.seq sq.sq)) (fun p hp=> ?_))
   obtain ⟨x,o,w⟩:=qY (x1.trans x2) hp (rl.mono x2.gg).reverse
   exact k _ (by rw [e0]; unfold tH; exact if_pos rfl) _ _ _ _ x o w
  ·exact kk.elim
 ·exact kk.elim
noncomputable def EW:D→Res Bool
 | .lst l=> .ok (!l.isEmpty)
 | .bl b=> .ok b
 | _=> .bad
theorem vV {e:Expr}{f:DS→Res D}(h:PD X E e f)(he:∀ whole,isTrue e X.env whole=(do let v ← whole; standAt e.pos; holding [v] (truthy v)):=by intro _; rfl):ub X E e (fun ρ=>(f ρ).bind EW):=by
 intro pins s σ G H ρ I hs hro ho
 refine isTrue_plain (aT (h pins s σ G H ρ I hs hro ho.fst) fun v s1 hZ159=> ?_) (he _)
 obtain ⟨d,e,v3,G3,H3,I3,r3,x3,p3⟩:=hZ159
 have k:=ho.snd e (Same.refl H)
 cases d with
 | bl b=>
  rw [rep_bl] at p3; subst p3; cases r3
  exact wpAny_truthy_bool ⟨au e rfl,G3,H3,I3,x3⟩
 | lst l=>
  rw [rep_lst] at p3
  refine bA (p3) fun a xs hS142 sq rl=> ?_; subst hS142
  cases r3
  refine cy (I3.list (x3.gh.seq sq.sq)) fun its rv pl hz=> ?_
  refine wpAny_truthy_list pl.isList (by rw [List.size_toArray,← rv.length]; have:=sizeLine_eq; omega) ⟨au e ?_,G3,H3,I3.tok _,x3⟩
  show Res.ok (!l.isEmpty)= .ok _
  have h1:=rl.length
  have h2:=rv.length
  cases l with
  | nil=>
   cases its with
   | nil=>rfl
   | cons _ _=>simp at h1; rw [← h1] at h2; simp at h2
  | cons _ _=>
   cases its with
   | nil=>rw [← h1] at h2; simp at h2
   | cons _ _=>rfl
 | _=>exact k.elim
theorem cm {st:Stmt}:mD X E μ r st (fun _=> .bad):=fun _ _ _ _ _ _ _ _ _ _ _ ho=>ho.elim
theorem xC {sts:List Stmt}:ud X E μ r sts (fun _=> .bad):=fun _ _ _ _ _ _ _ _ _ _ _ ho=>ho.elim
end
noncomputable def iG (n:Nat)(N:List Str)(F:DS→Out):List D→Res D:=fun ds=>if ds.length=n then fD (F (aJ N ds)) else .bad
section
variable{P:Program}{w:World}{K:W.Frag}{mg:Str→Option Value}{base:Heap}
structure Cal (P:Program)(w:World)(K:W.Frag)(mg:Str→Option Value)(base:Heap)(x:Str)(k:Nat)(ps:List Str)(sp:Sp):Prop where
 ex:∃ f fd,FnOk P w K mg base (CXF P w) k f fd ps sp∧Binds K fd ps []∧mg x=some (.ref f)∧W.keepIn K (.ref f)=true
structure Sta (K:W.Frag)(mg:Str→Option Value)(x:Str)(st:Stmt)(ps:List Str):Prop where
 ex:∃ f fd,Fun K x x st f fd∧Binds K fd ps []∧mg x=some (.ref f)∧W.keepIn K (.ref f)=true
theorem Sta.cal {x:Str}{st:Stmt}{N ps:List Str}{k r n:Nat}{F:DS→Out}(S:Sta K mg x st ps)(sc:FnScope N ps (ai st))(μ:List Nat)(hμ:∀ i,i < ps.length→μ.getD i 0=0)(hn:ps.length=n)
  (hbody:∀ (f:Addr) (cdv:Value) (A:Around) (outer:List Env) (s:Shared) (H:Hp) (E:XK),Room k (A.deeper (envOfC x (ai st) s.heap.objs.size f cdv))→
   ud (xS P w K mg base N x (ai st) f cdv A outer s H E) E μ r (cK st) F):Cal P w K mg base x (k+1) ps (freshSp K r (iG n N F)):=by
 refine oC (S.ex) fun f fd hf hb hm hk=> ?_
 refine ⟨f,fd,hf.fresh sc μ hμ (fun ds h=> ?_) (fun cdv A outer s H E hr=>⟨F,hbody f cdv A outer s H E hr,fun ds h=> ?_⟩),hb,hm,hk⟩
 ·unfold iG at h
  split at h
  ·rename_i e; rw [e,hn]
  ·exact absurd rfl h
 ·unfold iG at h ⊢
  split at h
  ·rename_i e; rw [if_pos e]
  ·exact absurd rfl h
end
section
variable{X:Cx}{E:XK}{n:Nat}
theorem nZ {k j:Nat}{ps:List Str}{m:List D→Res D}{x:Str}{p pos:Pos}{e:Expr}{es:List Expr}{fs:DS→Res (List D)}(C:Cal X.prog X.w X.K X.mg X.base x k ps (freshSp X.K n m))(hr:Room j X.A)
  (ha:mB X E (e :: es) fs) (hx:cP (CXF X.prog X.w) X E:=by exact iU fun _ _ _ h=>h) (hkj:k≤j:=by decide) (hg:Gl X x:=by rfl) (hdb:(x == ("__debug__" :Str))=false:=by decide) (he:starEach (e :: es) X.env=(false,eval e X.env) :: starEach es X.env:=by rfl) (hpl:(backTo pos (starEach es X.env)).any (·.1)=false:=by rfl) :
  PN X E n (.Call (.Name x p) (e :: es) [] pos) (bD fs m):=by
 refine oC (C.ex) fun f fd F hb hm hk=> ?_
 exact BK F (hr.mono hkj) hg hm hk hb hx ha hdb he hpl
theorem aH {k j:Nat}{ps:List Str}{m:List D→Res D}{x:Str}{p pos:Pos}{e:Expr}{es:List Expr}{fs:DS→Res (List D)}(C:Cal X.prog X.w X.K X.mg X.base x k ps (freshSp X.K n m))(hr:Room j X.A)
  (ha:mB X E (e :: es) fs) (hx:cP (CXF X.prog X.w) X E:=by exact iU fun _ _ _ h=>h) (hkj:k≤j:=by decide) (hg:Gl X x:=by rfl) (hdb:(x == ("__debug__" :Str))=false:=by decide) (he:starEach (e :: es) X.env=(false,eval e X.env) :: starEach es X.env:=by rfl) (hpl:(backTo pos (starEach es X.env)).any (·.1)=false:=by rfl) :
  PD X E (.Call (.Name x p) (e :: es) [] pos) (bD fs m):=(nZ C hr ha hx hkj hg hdb he hpl).pd
end
noncomputable def fg (so:Scope)(No:List Str)(scope:Scope):List Str→List (Option Nat)→Bool
 | x :: N,some k :: caps=>decide (scope.names.lookup x=some .free) && decide (No[k]?=some x) && (decide (so.names.lookup x=some .cell) || decide (so.names.lookup x=some .free)) && fg so No scope N caps
 | _ :: N,none :: caps=>fg so No scope N caps
 | [],[]=>true
 | _,_=>false
theorem jP {so:Scope}{No:List Str}{scope:Scope}:∀ {N:List Str} {caps:List (Option Nat)},fg so No scope N caps=true→caps.length=N.length
 | [],[],_=>rfl
 | [],_ :: _,h=>by unfold fg at h; cases h
 | _ :: _,[],h=>by unfold fg at h; cases h
 | x :: N,none :: caps,h=>by unfold fg at h; rw [List.length_cons,List.length_cons,jP h]
 | x :: N,some k :: caps,h=>by unfold fg at h; rw [Bool.and_eq_true] at h; rw [List.length_cons,List.length_cons,jP h.2]
theorem jj {so:Scope}{No:List Str}{scope:Scope}:∀ {N:List Str} {caps:List (Option Nat)} {j k:Nat} {x:Str},fg so No scope N caps=true→caps[j]?=some (some k)→N[j]?=some x→scope.names.lookup x=some .free∧No[k]?=some x∧(so.names.lookup x=some .cell∨so.names.lookup x=some .free)
 | [],[],j,k,x,_,h1,h2=>by simp at h1
 | [],_ :: _,j,k,x,h,h1,h2=>by simp at h2
 | _ :: _,[],j,k,x,h,h1,h2=>by simp at h1
 | y :: N,none :: caps,j,k,x,h,h1,h2=>by
  unfold fg at h
  cases j with
  | zero=>simp at h1
  | succ j=>exact jj h (by simpa using h1) (by simpa using h2)
 | y :: N,some k0 :: caps,j,k,x,h,h1,h2=>by
  unfold fg at h
  rw [Bool.and_eq_true,Bool.and_eq_true,Bool.and_eq_true,Bool.or_eq_true] at h
  obtain ⟨⟨⟨a,b⟩,c⟩,d⟩:=h
  cases j with
  | zero=>
   simp at h1 h2
   subst h1 h2
   exact ⟨of_decide_eq_true a,of_decide_eq_true b,c.imp of_decide_eq_true of_decide_eq_true⟩
  | succ j=>exact jj d (by simpa using h1) (by simpa using h2)
noncomputable def vt (so:Scope)(No:List Str)(scope:Scope)(N:List Str)(caps:List (Option Nat)):Bool:=
 decide (scope.kind= .function) && scope.names.all (fun y=>decide (y.2≠ .cell)) && scope.names.all (fun y=>decide (y.2≠ .local) || decide (scope.names.lookup y.1=some .local)) &&
  scope.names.all (fun y=>decide (y.2≠ .free) || (decide (so.names.lookup y.1=some .cell) || decide (so.names.lookup y.1=some .free))) && decide N.Nodup && fg so No scope N caps
theorem aW {X:Cx}{scope:Scope}{N:List Str}{caps:List (Option Nat)}(so:Scope)(No:List Str)(hso:X.env.scope=so)(hNo:X.N=No)(chk:vt so No scope N caps=true):CompSc X scope N caps:=by
 unfold vt at chk
 simp only [Bool.and_eq_true] at chk
 obtain ⟨⟨⟨⟨⟨a,b⟩,c⟩,d⟩,e⟩,f⟩:=chk
 refine ⟨of_decide_eq_true a,fun y hy=>of_decide_eq_true (List.all_eq_true.mp b y hy),fun y hy hk=> ?_,fun y hy hk=> ?_,of_decide_eq_true e,jP f,fun j k x h1 h2=>(jj f h1 h2).1,fun j k x h1 h2=> ?_⟩
 ·have:=List.all_eq_true.mp c y hy
  rw [Bool.or_eq_true] at this
  rcases this with z | z
  ·exact absurd hk (of_decide_eq_true z)
  ·exact of_decide_eq_true z
 ·have:=List.all_eq_true.mp d y hy
  rw [Bool.or_eq_true,Bool.or_eq_true] at this
  rw [hso]
  rcases this with z | z | z
  ·exact absurd hk (of_decide_eq_true z)
  ·exact .inl (of_decide_eq_true z)
  ·exact .inr (of_decide_eq_true z)
 ·obtain ⟨_,h3,h4⟩:=jj f h1 h2
  rw [hso,hNo]
  exact ⟨h3,h4⟩
noncomputable abbrev pN:DS→Res (List D):=fun _=> .ok []
noncomputable abbrev pC (f:DS→Res D)(g:DS→Res (List D)):DS→Res (List D):=fun ρ=>(f ρ).bind fun d=>(g ρ).bind fun ds=> .ok (d :: ds)
noncomputable abbrev kI (i:Int):DS→Res D:=fun _=> .ok (.int i)
noncomputable abbrev kB (b:Bool):DS→Res D:=fun _=> .ok (.bl b)
noncomputable abbrev kS (x:Str):DS→Res D:=fun _=> .ok (.str x)
noncomputable abbrev c1 (f:DS→Res D)(m:List D→Res D):DS→Res D:=fun ρ=>(f ρ).bind fun a=>m [a]
section
variable{X:Cx}{E:XK}{μ:List Nat}{r n:Nat}
theorem EK {st:Stmt}{i:Nat}{x:Str}{f:DS→Res D}(h:∃ te,PS X st (rE te (b_ i))∧TN X.K E n f te)(hi:X.N[i]?=some x)(hm:μ.getD i 0=0):mD X E μ r st (aQ i (bZ μ f)):=
 let ⟨_,h1,h2⟩:=h; wc hi h1 h2.freeze hm
theorem uT {st:Stmt}{i:Nat}{x:Str}{f:DS→Res D}(h:∃ te,PS X st (rE te (b_ i))∧TN X.K E n f te)(hi:X.N[i]?=some x)(hm:μ.getD i 0=n):mD X E μ r st (aQ i (bZ μ f)):=
 let ⟨_,h1,h2⟩:=h; wc hi h1 h2 hm
theorem CD {st:Stmt}{i:Nat}{x:Str}{f:DS→Res D}(h:∃ te,PS X st (rE te (b_ i))∧TN X.K E n f te)(hi:X.N[i]?=some x):mD X E [] r st (aQ i f):=by
 have:=EK (μ:=[]) (r:=r) h hi rfl
 unfold bZ at this
 simp only [kr] at this
 exact this
noncomputable abbrev sL (f:DS→Res D):DS→Res (List D):=fun ρ=>(f ρ).bind BX
noncomputable abbrev sT (f:DS→Res D):DS→Res (List D):=fun ρ=>(f ρ).bind EY
noncomputable abbrev sR1 (fs:DS→Res (List D)):DS→Res (List D):=fun ρ=>(fs ρ).bind oS
noncomputable abbrev sR2 (fs:DS→Res (List D)):DS→Res (List D):=fun ρ=>(fs ρ).bind zB
noncomputable abbrev sE (fs:DS→Res (List D)):DS→Res (List D):=fun ρ=>(fs ρ).bind sj
noncomputable abbrev sZ (fs:DS→Res (List D)):DS→Res (List D):=fun ρ=>(fs ρ).bind oA
noncomputable abbrev oI (f:DS→Res D):DS→Res (Option Int):=fun ρ=>(f ρ).bind Hz
noncomputable abbrev oN:DS→Res (Option Int):=fun _=> .ok none
noncomputable abbrev tR (f:DS→Res D):DS→Res Bool:=fun ρ=>(f ρ).bind EW
noncomputable abbrev nG (f:DS→Res D):DS→Res D:=fun ρ=>(f ρ).bind El
noncomputable abbrev yes:DS→Res Bool:=fun _=> .ok true
noncomputable abbrev bad1:DS→Out:=fun _=> .bad
noncomputable abbrev nxt:DS→Out:=fun ρ=> .nx ρ
end
structure CalM (P:Program)(w:World)(K:W.Frag)(mg:Str→Option Value)(base:Heap)(C:Addr)(m:Str)(k:Nat)(g:List D→Res D):Prop where
 cl:Cls K C
 ex:∃ f fd,Meth K C m f∧FnOk P w K mg base (CXF P w) k f fd ["self"] (pureSp K g)∧Binds K fd ["self"] []
structure CalI (P:Program)(w:World)(K:W.Frag)(mg:Str→Option Value)(base:Heap)(x:Str)(C:Addr)(k:Nat)(ps:List Str)(m:List D→Res D):Prop where
 of:CO C m
 mgx:mg x=some (.ref C)
 ex:∃ f fd,Mk K C f∧FnOk P w K mg base (CXF P w) k f fd ps (qM K C m)∧Binds K fd ps []
section
variable{X:Cx}{E:XK}
theorem l_ {pl:Sem Bool}{k j:Nat}{C:Addr}{g:List D→Res D}{m:Str}{apos pos:Pos}{o:Expr}{fo:DS→Res D}(M:CalM X.prog X.w X.K X.mg X.base C m k g)(hr:Room j X.A)(hoo:PD X E o fo)
  (hx:cP (CXF X.prog X.w) X E:=by exact iU fun _ _ _ h=>h) (hkj:k≤j:=by decide)
  (ht:eval (.Call (.Attribute o m apos) [] [] pos) X.env=(do
   let ov ← eval o X.env
   standAt apos.atName
   let (f,first) ← holding [ov] (getMethod ov m pl)
   callWith pos f first (backTo pos (starEach [] X.env)) (backToKw pos (keywordEach [] X.env))):=by rfl):PD X E (.Call (.Attribute o m apos) [] [] pos) (gG C m fo g):=by
 refine bA (M.ex) fun f fd hm F hb=> ?_
 exact GI hoo M.cl hm F (hr.mono hkj) hb hx ht
theorem GJ {k j:Nat}{C:Addr}{ps:List Str}{m:List D→Res D}{x:Str}{p pos:Pos}{e:Expr}{es:List Expr}{fs:DS→Res (List D)}(M:CalI X.prog X.w X.K X.mg X.base x C k ps m)(hr:Room j X.A)(ha:mB X E (e :: es) fs)
  (hx:cP (CXF X.prog X.w) X E:=by exact iU fun _ _ _ h=>h) (hkj:k+1≤j:=by decide) (hg:Gl X x:=by rfl) (hdb:(x == ("__debug__" :Str))=false:=by decide)
  (he:starEach (e :: es) X.env=(false,eval e X.env) :: starEach es X.env:=by rfl) (hpl:(backTo pos (starEach es X.env)).any (·.1)=false:=by rfl):PD X E (.Call (.Name x p) (e :: es) [] pos) (bD fs m):=by
 refine bA (M.ex) fun f fd mk F hb=> ?_
 exact Bu mk F M.of (hr.mono hkj) hg M.mgx hb hx ha fun t ht=>BB mk F (hr.mono hkj) hg M.mgx hb .nil hx ht hdb he hpl
end
theorem wu {i:Nat}{ρ:DS}{c:Addr}:ac i ρ≠ .exc c:=by
 unfold ac
 split <;> intro h <;> cases h
theorem uz {a b:D}{c:Addr}:aA a b≠ .exc c:=by
 unfold aA
 repeat' split
 all_goals (intro h; cases h)
theorem GB {μ:List Nat}{i:Nat}{k:Int}:∀ ρ c,bZ μ (ae (ac i) (kI k) aA) ρ≠ .exc c:=by
 intro ρ c h
 have h:((ac i (fm μ ρ)).bind fun a=>aA a (.int k))= .exc c:=h
 cases q:ac i (fm μ ρ) with
 | ok d=>rw [q] at h; exact uz h
 | exc e=>exact wu q
 | bad=>rw [q] at h; cases h
section
variable{X:Cx}{E:XK}
end
noncomputable def wm (K:W.Frag):Sp:=fun vs H Q _=>∃ (ad:Addr) (sc:List Int),vs=[.ref ad]∧sc.length≤63∧gu K H ad (sc.map V.int)∧∀ H',Q (.bl true) H'
section
variable{P:Program}{w:World}{K:W.Frag}{mg:Str→Option Value}{base:Heap}{r:Nat}
theorem Bn {k:Nat}{f:Addr}{fd:FuncData}{m:List D→Res D}(F:FnOk P w K mg base (CXF P w) k f fd ["script"] (freshSp K 0 m))(h:∀ ns:List Int,ns.length≤63→m [.scr ns]= .ok (.bl true)):FnOk P w K mg base (CXF P w) k f fd ["script"] (wm K):=
 F.imp fun vs H Q E hZ160=>by
  refine oC (hZ160) fun ad sc e hl sq q=> ?_
  subst e
  refine ⟨[.scr sc],H,.refl _,.cons (by unfold Rep; exact ⟨ad,rfl,sq⟩) .nil,by rw [h sc hl]; trivial,fun d ed v G' H' S _ o _=> ?_⟩
  rw [h sc hl] at ed
  cases ed
  have o2:=o.2
  rw [rep_bl] at o2
  rw [o2]
  exact q H'
theorem Fun.freshM {x qual:Str}{st:Stmt}{f:Addr}{fd:FuncData}{N ps:List Str}{k n:Nat}{F:DS→Out}(Fn:Fun K x qual st f fd)(sc:FnScope N ps (ai st))(μ:List Nat)(hμ:∀ i,i < ps.length→μ.getD i 0=0)(hn:ps.length=n)
  (hbody:∀ (cdv:Value) (A:Around) (outer:List Env) (s:Shared) (H:Hp) (E:XK),Room k (A.deeper (envOfC qual (ai st) s.heap.objs.size f cdv))→
   ud (xS P w K mg base N qual (ai st) f cdv A outer s H E) E μ r (cK st) F):FnOk P w K mg base (CXF P w) (k+1) f fd ps (freshSp K r (iG n N F)):=by
 refine Fn.fresh sc μ hμ (fun ds h=> ?_) (fun cdv A outer s H E hr=>⟨F,hbody cdv A outer s H E hr,fun ds h=> ?_⟩)
 ·unfold iG at h
  split at h
  ·rename_i e; rw [e,hn]
  ·exact absurd rfl h
 ·unfold iG at h ⊢
  split at h
  ·rename_i e; rw [if_pos e]
  ·exact absurd rfl h
end
theorem wK {P:Program}{w:World}{H:Hp}{s:Shared}{e:Value}{s':Shared}(h:CXF P w [] H s (fun _ _ _=>False) e s'):False:=by
 obtain ⟨_,_,_,_,_,_,_,_,_,_,_,_,_,_,q⟩:=h
 exact q
theorem yO (k:Nat){l:W.OpenLaw}{q:Program}{loose:List Str}{XP:(Str→Option Value)→Heap→Prop}{YP:World→Heap→Prop}{d:DefRec}{K:Params→W.Frag}(hr:Room k callerA)(hn:l.most=some 63)(hdf:d.params.defaults=[])
  (hY:∀ (w:World) (h:Heap),YP w h→(K w.params).In h)
  (F:∀ (w:World) (mg:Str→Option Value) (fa:Addr) (h:Heap),(K w.params).In h→h.Ns mainGlobals mg→mg d.name=some (.ref fa)→
   ∃ fd:FuncData,(∀ (s:Shared) (u:Value),BindsTo s fd ⟨[u],[]⟩ [("script",u)])∧∀ base:Heap,(K w.params).In base→base.Ns mainGlobals mg→FnOk l.prog w (K w.params) mg base (CXF l.prog w) k fa fd ["script"] (wm (K w.params))) :
  W.WalkO q loose XP YP l.row.toRowW d [] (fun f vs=>PySem.call f vs):=
 Ce (n:=63) (k:=k) (x:= "script") (CX:=fun w=>CXF l.prog w) (sp:=fun w=>wm (K w.params)) hn (by decide) hdf hr hY F (fun _ _ a ns hl _ hS=>(lv a ns rfl hl hS (fun _=>rfl))) fun _ _ _ _ _ z=>wK z
end L2
namespace L2
open PySem
section
variable{α:Type}{ρ ρ' ρ1:DS}{μ:List Nat}{n j k m:Nat}{f fi':DS→Res D}{fc:DS→Res Bool}{F R:DS→Out}{fi:DS→Res (List D)}{asg:D→DS→Option DS}{o:Option D}{d e:D}{ds l row:List D}
theorem yi:bZ μ f ρ=f (fm μ ρ):=id rfl
theorem Du:yA μ fi ρ=fi (fm μ ρ):=id rfl
theorem FI:rK n f ρ=(f ρ).bind fun d=>if eI n d=true then .ok d else .bad:=id rfl
theorem Dr:fm (0 :: μ) (o :: ρ)=o :: fm μ ρ:=by unfold fm; rw [List.mapIdx_cons]; rfl
theorem Dt:fm ((n+1) :: μ) (o :: ρ)=none :: fm μ ρ:=by unfold fm; rw [List.mapIdx_cons]; rfl
theorem Ds:fm μ []=[]:=id rfl
theorem qz:c_ fi asg F ρ=(fi ρ).out fun ds=>cf asg F ds ρ:=id rfl
theorem yh:cf asg F [] ρ= .nx ρ:=id rfl
theorem qG (h1:asg d ρ=some ρ1)(h2:F ρ1= .nx ρ'):cf asg F (d :: ds) ρ=cf asg F ds ρ':=by
 conv=>lhs; unfold cf
 rw [h1]; dsimp only; rw [h2]
theorem AS (h1:asg d ρ=some ρ1)(h2:F ρ1= .rt e):cf asg F (d :: ds) ρ= .rt e:=by
 conv=>lhs; unfold cf
 rw [h1]; dsimp only; rw [h2]
theorem ny (I:List D→DS→Prop)(step:∀ d ds ρ,I (d :: ds) ρ→∃ ρ1 ρ',asg d ρ=some ρ1∧F ρ1= .nx ρ'∧I ds ρ'):∀ ds ρ,I ds ρ→∃ ρ',cf asg F ds ρ= .nx ρ'∧I [] ρ'
 | [],ρ,h=>⟨ρ,rfl,h⟩
 | d :: ds,ρ,h=>by
  refine bA (step d ds ρ h) fun ρ1 ρ' h1 h2 h3=> ?_
  obtain ⟨ρ2,h4,h5⟩:=ny I step ds ρ' h3
  exact ⟨ρ2,(qG h1 h2).trans h4,h5⟩
theorem sC {x:Res D}(I:List D→DS→Prop)(h:I ds ρ)(step:∀ d ds ρ,I (d :: ds) ρ→∃ ρ1 ρ',asg d ρ=some ρ1∧F ρ1= .nx ρ'∧I ds ρ')(fin:∀ ρ',I [] ρ'→fD (R ρ')=x):fD ((cf asg F ds ρ).then R)=x:=by
 obtain ⟨ρ',e,h'⟩:=ny I step ds ρ h
 rw [e]; exact fin ρ' h'
theorem wU {P:D→Prop}(I:List D→DS→Prop)(h:I ds ρ)(step:∀ d ds ρ,I (d :: ds) ρ→∃ ρ1 ρ',asg d ρ=some ρ1∧F ρ1= .nx ρ'∧I ds ρ')(fin:∀ ρ',I [] ρ'→∃ x,fD (R ρ')= .ok x∧P x):∃ x,fD ((cf asg F ds ρ).then R)= .ok x∧P x:=by
 obtain ⟨ρ',e,h'⟩:=ny I step ds ρ h
 rw [e]; exact fin ρ' h'
theorem pH {l:List (List Int)}:eI 1 (.lst (l.map fun t=> .tup (t.map D.int)))=true:=by
 unfold eI
 rw [List.all_eq_true]
 intro d hd
 obtain ⟨t,_,rfl⟩:=List.mem_map.mp hd
 exact jQ t
theorem iW {i:Int}:eI 0 (.int i)=true:=by unfold eI flat; rfl
theorem sx {t:List Int}:eI 0 (.tup (t.map D.int))=true:=jQ t
theorem ko {st:List α→DS→Prop}{c:α→D}:∀ (xs pre:List α) (ρ:DS),st pre ρ→(∀ pre' x post,pre ++ xs=pre' ++ x :: post→∀ ρ,st pre' ρ→∃ ρ1,asg (c x) ρ=some ρ1∧∃ ρ',F ρ1= .nx ρ'∧st (pre' ++ [x]) ρ')→∃ ρ',cf asg F (xs.map c) ρ= .nx ρ'∧st (pre ++ xs) ρ'
 | [],pre,ρ,h,_=>⟨ρ,rfl,by rw [List.append_nil]; exact h⟩
 | x :: xs,pre,ρ,h,step=>by
  obtain ⟨ρ1,h1,ρ',h2,h3⟩:=step pre x xs rfl ρ h
  obtain ⟨ρ2,h4,h5⟩:=ko xs (pre ++ [x]) ρ' h3 fun pre' y post e=>step pre' y post (by rw [← e,List.append_assoc]; rfl)
  refine ⟨ρ2,(qG h1 h2).trans h4,?_⟩
  rw [List.append_assoc] at h5
  exact h5
theorem gM {x:Res D}{xs:List α}{c:α→D}(st:List α→DS→Prop)(h:st [] ρ)(step:∀ pre y post,xs=pre ++ y :: post→∀ ρ,st pre ρ→∃ ρ1,asg (c y) ρ=some ρ1∧∃ ρ',F ρ1= .nx ρ'∧st (pre ++ [y]) ρ')(fin:∀ ρ',st xs ρ'→fD (R ρ')=x):fD ((cf asg F (xs.map c) ρ).then R)=x:=by
 obtain ⟨ρ',e,h'⟩:=ko (asg:=asg) (F:=F) (c:=c) xs [] ρ h step
 rw [e]; exact fin ρ' h'
theorem pT {P:DS→Prop}{xs:List α}{c:α→D}(st:List α→DS→Prop)(h:st [] ρ)(step:∀ pre y post,xs=pre ++ y :: post→∀ ρ,st pre ρ→∃ ρ1,asg (c y) ρ=some ρ1∧∃ ρ',F ρ1= .nx ρ'∧st (pre ++ [y]) ρ')(fin:∀ ρ',st xs ρ'→∃ ρ'',R ρ'= .nx ρ''∧P ρ''):∃ ρ'',(cf asg F (xs.map c) ρ).then R= .nx ρ''∧P ρ'':=by
 obtain ⟨ρ',e,h'⟩:=ko (asg:=asg) (F:=F) (c:=c) xs [] ρ h step
 rw [e]; exact fin ρ' h'
theorem kK {P:DS→Prop}{xs:List α}{c:α→D}(st:List α→DS→Prop)(h:st [] ρ)(step:∀ pre y post,xs=pre ++ y :: post→∀ ρ,st pre ρ→∃ ρ1,asg (c y) ρ=some ρ1∧∃ ρ',F ρ1= .nx ρ'∧st (pre ++ [y]) ρ')(fin:∀ ρ',st xs ρ'→P ρ'):∃ ρ'',cf asg F (xs.map c) ρ= .nx ρ''∧P ρ'':=by
 obtain ⟨ρ',e,h'⟩:=ko (asg:=asg) (F:=F) (c:=c) xs [] ρ h step
 exact ⟨ρ',e,fin ρ' h'⟩
theorem oz (I:Nat→DS→Prop)(Dn:DS→Prop)(h:∀ n ρ,I n ρ→(fc ρ= .ok false∧Dn ρ)∨(fc ρ= .ok true∧∃ m ρ',n=m+1∧F ρ= .nx ρ'∧I m ρ')):∀ (n k:Nat) (ρ:DS),n < k→I n ρ→∃ ρ',cE fc F k ρ= .nx ρ'∧Dn ρ'
 | n,k+1,ρ,hk,hI=>by
  rcases h n ρ hI with ⟨h1,h2⟩ | ⟨h1,m,ρ',rfl,h2,h3⟩
  ·refine ⟨ρ,?_,h2⟩
   conv=>lhs; unfold cE
   rw [h1]; rfl
  ·obtain ⟨ρ2,h4,h5⟩:=oz I Dn h m k ρ' (by omega) h3
   refine ⟨ρ2,?_,h5⟩
   rw [← h4]
   conv=>lhs; unfold cE
   rw [h1,bp,if_pos rfl,h2]
theorem me {x:Res D}(I:Nat→DS→Prop)(Dn:DS→Prop)(n:Nat)(hn:n < k)(h0:I n ρ)(h:∀ n ρ,I n ρ→(fc ρ= .ok false∧Dn ρ)∨(fc ρ= .ok true∧∃ m ρ',n=m+1∧F ρ= .nx ρ'∧I m ρ'))(fin:∀ ρ',Dn ρ'→fD (R ρ')=x):fD ((cE fc F k ρ).then R)=x:=by
 obtain ⟨ρ',e,h'⟩:=oz I Dn h n k ρ hn h0
 rw [e]; exact fin ρ' h'
theorem pR {c:α→D}:∀ (l:List α) (n:Nat),bW n (l.map c)=(l.zipIdx n).map fun q=> .tup [.int (q.2:Int),c q.1]
 | [],n=>rfl
 | x :: l,n=>by
  rw [List.map_cons,List.zipIdx_cons,List.map_cons]
  unfold bW
  rw [pR l (n+1)]
theorem fT {c:α→D}{l:List α}:sj [.lst (l.map c)]= .ok (l.zipIdx.map fun q=> .tup [.int (q.2:Int),c q.1]):=by
 unfold sj; dsimp only; rw [pR]
theorem ww {β:Type}{c:α→D}{c':β→D}:∀ (l:List α) (l':List β),jB (l.map c) (l'.map c')=(l.zip l').map fun q=> .tup [c q.1,c' q.2]
 | [],_=>by unfold jB; rfl
 | _ :: _,[]=>by unfold jB; rfl
 | a :: l,b :: l'=>by
  rw [List.map_cons,List.map_cons,List.zip_cons_cons,List.map_cons]
  unfold jB
  rw [ww l l']
theorem lg {β:Type}{c:α→D}{c':β→D}{l:List α}{l':List β}:oA [.lst (l.map c),.lst (l'.map c')]= .ok ((l.zip l').map fun q=> .tup [c q.1,c' q.2]):=by
 unfold oA; dsimp only; rw [ww]
theorem lI {l:List α}{c:Nat→D}:(List.range l.length).map c=l.zipIdx.map fun q=>c q.2:=by
 have:l.zipIdx.map Prod.snd=List.range l.length:=by rw [List.zipIdx_map_snd,List.range_eq_range']
 rw [← this,List.map_map]; rfl
theorem rG (h:ac j ρ= .ok d):ρ[j]?=some (some d):=by
 unfold ac at h
 split at h
 ·rename_i x e; cases h; exact e
 ·cases h
theorem fv (h:n≤100000):aX n=true:=decide_eq_true h
theorem qy (h:ac j ρ= .ok (.lst l))(hf:f ρ= .ok d)(hl:l.length≤100000):k9 j f ρ= .nx (ρ.set j (some (.lst (l ++ [d])))):=by
 unfold k9
 rw [rG h]; dsimp only
 rw [hf,bp,if_pos (fv hl)]
theorem vL (h:m < n):sJ n (m:Int)=some m:=by
 unfold sJ
 rw [if_pos (by omega),if_pos (by omega)]; simp
theorem qD (h:ac j ρ= .ok (.lst l))(hf:f ρ= .ok d)(hi:fi' ρ= .ok (.int m))(hm:m < l.length):lK j fi' f ρ= .nx (ρ.set j (some (.lst (l.set m d)))):=by
 unfold lK
 rw [rG h]; dsimp only
 rw [hf,bp,hi,bp]
 unfold rb
 dsimp only
 rw [vL hm]
theorem AH (h:ac j ρ= .ok (.lst l))(hi:fi' ρ= .ok (.int m))(hf:f ρ= .ok d)(hm:l[m]?=some (.lst row))(hr:row.length≤100000):tK j fi' f ρ= .nx (ρ.set j (some (.lst (l.set m (.lst (row ++ [d])))))):=by
 unfold tK
 rw [rG h]; dsimp only
 rw [hi,bp,hf,bp]
 unfold rf
 dsimp only
 rw [vL (d7 hm).1]
 dsimp only
 rw [hm]
 dsimp only
 rw [if_pos (fv hr)]
theorem kj {fe:DS→Res D}{ft:DS→Res Bool}{caps:List (Option Nat)}{xs:List α}{c:α→D}{p:α→Bool}{g:α→D}(hi:fi ρ= .ok (xs.map c))(hl:xs.length≤100000)
  (h:∀ x∈xs,∃ ρ',asg (c x) (dN caps ρ)=some ρ'∧ft ρ'= .ok (p x)∧(p x=true→fe ρ'= .ok (g x))):aV fi caps asg ft fe ρ= .ok (.lst ((xs.filter p).map g)):=by
 unfold aV
 rw [hi,aD,if_pos (fv (by rw [List.length_map]; exact hl))]
 have go:∀ ys:List α,(∀ x∈ys,∃ ρ',asg (c x) (dN caps ρ)=some ρ'∧ft ρ'= .ok (p x)∧(p x=true→fe ρ'= .ok (g x)))→
   bE (oB asg (dN caps ρ) ft) (oB asg (dN caps ρ) fe) (ys.map c)= .ok ((ys.filter p).map g):=by
  intro ys
  induction ys with
  | nil=>intro _; rfl
  | cons y ys ih=>
   intro h
   refine cy (h y (List.mem_cons_self ..)) fun ρ' h1 h2 h3=> ?_
   have ih:=ih fun x hx=>h x (cN hx)
   rw [List.map_cons]
   unfold bE
   have e1:oB asg (dN caps ρ) ft (c y)= .ok (p y):=by unfold oB; rw [h1]; exact h2
   rw [e1]
   cases q:p y with
   | true=>
    dsimp only
    have e2:oB asg (dN caps ρ) fe (c y)= .ok (g y):=by unfold oB; rw [h1]; exact h3 q
    rw [e2]; dsimp only
    rw [ih,aD,List.filter_cons_of_pos q]; rfl
   | false=>
    dsimp only
    rw [ih,List.filter_cons_of_neg (by rw [q]; exact Bool.false_ne_true)]
 rw [go xs h,aD]
theorem bn {fe:DS→Res D}{caps:List (Option Nat)}{xs:List α}{c:α→D}{g:α→D}(hi:fi ρ= .ok (xs.map c))(hl:xs.length≤100000)
  (h:∀ x∈xs,∃ ρ',asg (c x) (dN caps ρ)=some ρ'∧fe ρ'= .ok (g x)):aV fi caps asg yes fe ρ= .ok (.lst (xs.map g)):=by
 have:=kj (p:=fun _=>true) (ft:=yes) hi hl fun x hx=>(h x hx).imp fun ρ' h=>⟨h.1,rfl,fun _=>h.2⟩
 rw [List.filter_eq_self.mpr fun _ _=>rfl] at this
 exact this
theorem bK {N:List Str}(h:ds.length=n):iG n N F ds=fD (F (aJ N ds)):=if_pos h
theorem bq {g:α→D}{l:List α}{v:α}{i:Nat}(h:l[i]?=some v):aA (.lst (l.map g)) (.int i)= .ok (g v):=ld (vn (by rw [List.getElem?_map,h]; rfl))
theorem cM {g:α→D}{l:List α}:ba [.lst (l.map g)]= .ok (.int l.length):=by rw [vC,List.length_map]
theorem yW {a:Int}{ns:List Int}:mn [.lst ((a :: ns).map D.int)]= .ok (.int (i7 (a :: ns))):=by unfold mn; dsimp only; rw [cV]
theorem yY {a:Int}{ns:List Int}:oQ [.lst ((a :: ns).map D.int)]= .ok (.int (lC (a :: ns))):=by unfold oQ; dsimp only; rw [cV]
theorem Bk {t:List Int}{ts:List (List Int)}:i8 [.lst ((t :: ts).map fun t=> .tup (t.map D.int))]= .ok (.tup ((fR t ts).map D.int)):=by unfold i8; dsimp only; rw [iR]
theorem BR {n:Nat}:oa 0 n=(List.range n).map fun (i:Nat)=>D.int (i:Int):=by
 unfold oa
 refine List.map_congr_left fun i _=> ?_
 rw [Int.zero_add]
theorem dw {n:Nat}(h:n < 1000000):oS [.int (n:Int)]= .ok ((List.range n).map fun (i:Nat)=>D.int (i:Int)):=by
 unfold oS
 dsimp only
 have:cS (n:Int)=true:=by unfold cS; rw [Bool.and_eq_true,decide_eq_true_eq,decide_eq_true_eq]; omega
 rw [if_pos this,Int.toNat_natCast,BR]
theorem qC {a b:Int}(h0: -1000000≤a)(h1:a < 1000000)(h2: -1000000≤b)(h3:b < 1000000):zB [.int a,.int b]= .ok (oa a (b - a).toNat):=by
 unfold zB
 dsimp only
 have:(cS a && cS b)=true:=by unfold cS; simp only [Bool.and_eq_true,decide_eq_true_eq]; omega
 rw [if_pos this]
theorem qA {ns:List Int}:ba [.scr ns]= .ok (.int ns.length):=id rfl
theorem Dw {ns:List Int}{i n:Int}(h:atI ns i=some n):aA (.scr ns) (.int i)= .ok (.int n):=by unfold aA; dsimp only; rw [h]
theorem nq {i j:Int}(h1: -(2 ^ 64) < j)(h2:j < 2 ^ 64):dR (.int i) (.int j)= .ok (.int (i * j)):=by
 unfold dR CB; rw [AE h1 h2]
theorem kl {i j:Int}(h1: -(2 ^ 64) < i)(h2:i < 2 ^ 64):dR (.int i) (.int j)= .ok (.int (i * j)):=by
 unfold dR CB; rw [AD h1 h2]
noncomputable def cellOf (ns:List Int)(k:Int):Int:=if ns.length=0 then 7 else ns.getD (k % ns.length).toNat 0
noncomputable def om (ns:List Int)(k:Int):Int:=(cellOf ns k * 48271+(k+1) * 7919+ns.length) % 2147483647
noncomputable def GV (ns:List Int)(k:Int):Int:=(om ns k * om ns k+k * 16807+11) % 2147483647
noncomputable def drawn (ns:List Int)(k many:Int):Int:=GV ns k * 48271 % 2147483647 / 16 % many
theorem Cb {ns:List Int}{k:Int}:0≤om ns k∧om ns k < 2147483647:=⟨Int.emod_nonneg _ (by decide),Int.emod_lt_of_pos _ (by decide)⟩
theorem eG {ns:List Int}{k many:Int}(h:0 < many):0≤drawn ns k many∧drawn ns k many < many:=⟨Int.emod_nonneg _ (by omega),Int.emod_lt_of_pos _ h⟩
theorem Ai {ns:List Int}{k:Int}(hz:ns.length≠0):atI ns (k % (ns.length:Int))=some (cellOf ns k):=by
 have hm0:0≤k % (ns.length:Int):=Int.emod_nonneg _ (by omega)
 have hm1:k % (ns.length:Int) < ns.length:=Int.emod_lt_of_pos _ (by omega)
 refine jK hm0 ?_
 have hlt:(k % (ns.length:Int)).toNat < ns.length:=by omega
 rw [cC hlt]
 unfold cellOf
 rw [if_neg hz]
 simp [List.getD,cC hlt]
end
end L2
namespace L2
open PySem PySem.Spec PyProof.Rows
theorem AllW.zero {K:W.Frag}{G H:Hp}:∀ {ds:List D} {vs:List V} {S:List Addr},AllW (Ow K G H 0) ds vs S→S=[]∧RepL K G ds vs
 | [],_,_,h=>by rw [h.1,h.2]; exact ⟨rfl,.nil⟩
 | d :: ds,_,_,h=>by
  refine oY (h) fun v r A B e1 e2 h1 h2=> ?_
  obtain ⟨e3,h3⟩:=AllW.zero h2
  subst e1 e2 e3
  rw [h1.1]
  exact ⟨rfl,.cons h1.2 h3⟩
theorem AllW.of0 {K:W.Frag}{G H:Hp}:∀ {ds:List D} {vs:List V},RepL K G ds vs→AllW (Ow K G H 0) ds vs []
 | [],_,h=>⟨h.inv0,rfl⟩
 | d :: ds,_,h=>by
  refine bA (h.inv) fun v r hS143 h1 h2=> ?_; subst hS143
  exact (oH v r ([]) ([]) rfl rfl ⟨rfl,h1⟩ (AllW.of0 h2))
section
variable{X:Cx}{E:XK}{μ:List Nat}{n:Nat}
variable{q:Nat}
end
section
variable{X:Cx}{E:XK}{μ:List Nat}{n:Nat}
end
theorem Rw.forget {K:W.Frag}{μ:List Nat}{Ge B G H:Hp}{σ:St}{ρ:DS}{fp:Nat→List Addr}{i:Nat}{o:Option V}(R:Rw K μ Ge B G H σ ρ fp):Rw K μ Ge B G H (σ.set i o) (ρ.set i none) (fun j=>if j=i then [] else fp j):=by
 have Y:=R.drop (i:=i)
 refine ⟨Y.gh,Y.eg,Y.bh,Y.nw,Y.gf,Y.ob,Y.oc,Y.nd,Y.dj,fun k d e=> ?_⟩
 obtain ⟨v,hv,h⟩:=Y.sl k d e
 refine ⟨v,?_,h⟩
 have hk:k≠i:=fun z=>by
  subst z
  rw [List.getElem?_set] at e
  split at e
  ·split at e <;> cases e
  ·rename_i hne; exact hne rfl
 rw [List.getElem?_set_ne (Ne.symm hk)]
 exact hv
section
variable{X:Cx}{E:XK}{μ:List Nat}{n:Nat}
end
section
variable{P:Program}{w:World}{K:W.Frag}{mg:Str→Option Value}{base:Heap}
end
section
variable{P:Program}{w:World}{K:W.Frag}{mg:Str→Option Value}{base:Heap}
end
section
variable{X:Cx}{E:XK}{μ:List Nat}{r n:Nat}
noncomputable def wz:List D→Res D
 | [.int i]=> .ok (.int (if i < 0 then -i else i))
 | _=> .bad
theorem Db {K:W.Frag}:xT K E (fun xs H Q=>∃ i,xs=[.int i]∧Q (.int (if i < 0 then -i else i)) H) wz:=by
 intro G H vs ds Q hs rl ok k
 unfold wz at ok k
 split at ok
 ·rename_i i
  obtain ⟨v,r,rfl,rx,r0⟩:=rl.inv
  rw [r0.inv0]
  rw [rep_int] at rx
  subst rx
  exact ⟨i,rfl,k _ _ G H rfl (.refl hs) (rep_int.mpr rfl)⟩
 ·exact ok.elim
theorem CY:bootBuiltins "abs" =some (.builtin "abs"):=by decide +kernel
theorem Ew {e:Expr}{p pos:Pos}{f:DS→Res D}(hm:X.mg "abs" =none)(h:PD X E e f)(hg:Gl X "abs" :=by rfl)(he:starEach [e] X.env=(false,eval e X.env) :: starEach [] X.env:=by rfl):PD X E (.Call (.Name "abs" p) [e] [] pos) (fun ρ=>(f ρ).bind fun a=>wz [a]):=
 qX ▸ ee (X:=X) (E:=E) (p:=p) (pos:=pos) x8 Db hg hm CY (aa h af he) (by decide) (by decide) he rfl
theorem gk {i:Nat}:∀ ρ c,ac i ρ≠ .exc c:=fun ρ c=>wu
end
end L2
namespace L2
open PySem
theorem y6 {f g:DS→Res D}{o:D→D→Res D}(hf:∀ ρ c,f ρ≠ .exc c)(hg:∀ ρ c,g ρ≠ .exc c)(ho:∀ {a b:D} {c:Addr},o a b≠ .exc c):∀ ρ c,ae f g o ρ≠ .exc c:=fun ρ c h=>by
 rw [ym] at h
 cases q:f ρ with
 | exc e=>exact hf ρ e q
 | bad=>rw [q] at h; cases h
 | ok a=>
  rw [q,aD] at h
  cases q2:g ρ with
  | exc e=>exact hg ρ e q2
  | bad=>rw [q2] at h; cases h
  | ok b=>rw [q2,aD] at h; exact ho h
theorem Aa {a b:D}{c:Addr}:aO a b≠ .exc c:=by
 unfold aO CB
 have h1:∀ x y:D,xW x y≠ .exc c:=fun x y h=>by
  unfold xW iH at h
  split at h
  ·split at h <;> cases h
  ·cases h
 have h2:∀ x y:D,xX x y≠ .exc c:=fun x y h=>by
  unfold xX at h
  split at h
  ·split at h <;> cases h
  ·cases h
 have h3:∀ x y:D,wI x y≠ .exc c:=fun x y h=>by
  unfold wI at h
  split at h
  ·split at h <;> cases h
  ·cases h
 intro h
 split at h
 ·split at h
  ·exact h3 _ _ h
  ·exact h2 _ _ h
 ·exact h1 _ _ h
noncomputable def Hj (fs:List (Nat×Nat))(a b:Nat):List (Nat×Nat):=
 (a,b) :: fs ++ (fs.filter (fun u=>u.2 == a)).map (fun u=>(u.1,b)) ++ (fs.filter (fun u=>u.1 == b)).map (fun u=>(a,u.2)) ++
  (fs.filter (fun u=>u.2 == a)).flatMap fun u=>(fs.filter (fun v=>v.1 == b)).map fun v=>(u.1,v.2)
noncomputable def mr (n:Nat):List (Nat×Nat)→W.KasT (Array Nat)→Bool
 | fs,.ret p=>decide (p.size=n) && p.toList.all (fun i=>decide (i < n)) && (List.range n).all (fun i=>p.toList.contains i) && decide p.toList.Nodup &&
   (p.toList.zip p.toList.tail).all fun u=>fs.contains u
 | fs,.ask i j k=>decide (i < n) && decide (j < n) && decide (i≠j) && (if fs.contains (i,j) then mr n fs (k true) else if fs.contains (j,i) then mr n fs (k false) else mr n (Hj fs i j) (k true) && mr n (Hj fs j i) (k false))
theorem x9 {lt:Nat→Nat→Bool}(tr:∀ a b c,lt a b=true→lt b c=true→lt a c=true){fs:List (Nat×Nat)}{a b:Nat}(hf:∀ f∈fs,lt f.1 f.2=true)(h:lt a b=true):∀ f∈Hj fs a b,lt f.1 f.2=true:=by
 intro f hfm
 unfold Hj at hfm
 rcases List.mem_append.mp hfm with z | z
 ·rcases List.mem_append.mp z with z | z
  ·rcases List.mem_append.mp z with z | z
   ·rcases List.mem_cons.mp z with z | z
    ·subst z; exact h
    ·exact hf f z
   ·obtain ⟨u,hu,rfl⟩:=List.mem_map.mp z
    obtain ⟨h1,h2⟩:=List.mem_filter.mp hu
    have e:u.2=a:=by simpa using h2
    have:=hf u h1
    rw [e] at this
    exact tr _ _ _ this h
  ·obtain ⟨u,hu,rfl⟩:=List.mem_map.mp z
   obtain ⟨h1,h2⟩:=List.mem_filter.mp hu
   have e:u.1=b:=by simpa using h2
   have:=hf u h1
   rw [e] at this
   exact tr _ _ _ h this
 ·obtain ⟨u,hu,z⟩:=List.mem_flatMap.mp z
  obtain ⟨v,hv,rfl⟩:=List.mem_map.mp z
  obtain ⟨h1,h2⟩:=List.mem_filter.mp hu
  obtain ⟨h3,h4⟩:=List.mem_filter.mp hv
  have e:u.2=a:=by simpa using h2
  have e2:v.1=b:=by simpa using h4
  have q1:=hf u h1
  have q2:=hf v h3
  rw [e] at q1
  rw [e2] at q2
  exact tr _ _ _ (tr _ _ _ q1 h) q2
theorem i9 {n:Nat}{lt:Nat→Nat→Bool}(tr:∀ a b c,lt a b=true→lt b c=true→lt a c=true)(asy:∀ a b,lt a b=true→lt b a=false)(tot:∀ a b,a < n→b < n→a≠b→lt a b=false→lt b a=true):∀ (t:W.KasT (Array Nat)) (fs:List (Nat×Nat)),(∀ f∈fs,lt f.1 f.2=true)→mr n fs t=true→
  ∃ p,og n lt t=some p∧p.size=n∧(∀ i∈p.toList,i < n)∧(∀ i,i < n→i∈p.toList)∧p.toList.Nodup∧∀ u∈p.toList.zip p.toList.tail,lt u.1 u.2=true
 | .ret p,fs,hf,h=>by
  unfold mr at h
  simp only [Bool.and_eq_true,decide_eq_true_eq,List.all_eq_true] at h
  obtain ⟨⟨⟨⟨h1,h2⟩,D⟩,h4⟩,h5⟩:=h
  exact (Gi p rfl h1 (fun i hi=>h2 i hi) (fun i hi=>List.contains_iff_mem.mp (D i (List.mem_range.mpr hi))) h4 (fun u hu=>hf u (List.contains_iff_mem.mp (h5 u hu))))
 | .ask i j k,fs,hf,h=>by
  unfold mr at h
  simp only [Bool.and_eq_true,decide_eq_true_eq] at h
  obtain ⟨⟨⟨h1,h2⟩,hij⟩,D⟩:=h
  have e:og n lt (.ask i j k)=og n lt (k (lt i j)):=by
   conv=>lhs; unfold og
   rw [if_pos ⟨h1,h2⟩]
  rw [e]
  split at D
  ·rename_i c
   have q:lt i j=true:=hf (i,j) (List.contains_iff_mem.mp c)
   rw [q]
   exact i9 tr asy tot _ fs hf D
  ·split at D
   ·rename_i c
    have q:lt i j=false:=asy _ _ (hf (j,i) (List.contains_iff_mem.mp c))
    rw [q]
    exact i9 tr asy tot _ fs hf D
   ·rw [Bool.and_eq_true] at D
    cases q:lt i j with
    | true=>exact i9 tr asy tot _ _ (x9 tr hf q) D.1
    | false=>exact i9 tr asy tot _ _ (x9 tr hf (tot i j h1 h2 hij q)) D.2
theorem HJ:mr 2 [] (W.kas_sort 2)=true:=by decide +kernel
theorem HK:mr 3 [] (W.kas_sort 3)=true:=by decide +kernel
theorem HL:mr 4 [] (W.kas_sort 4)=true:=by decide +kernel
theorem HM:mr 5 [] (W.kas_sort 5)=true:=by decide +kernel
theorem y7 {n:Nat}(h2:2≤n)(h5:n≤5):mr n [] (W.kas_sort n)=true:=by
 rcases (show n=2∨n=3∨n=4∨n=5 by omega) with rfl | rfl | rfl | rfl
 ·exact HJ
 ·exact HK
 ·exact HL
 ·exact HM
theorem jV:∀ (a b:List Int),HT.aM a b=true→HT.aM b a=false
 | [],[],h=>by cases h
 | [],_ :: _,_=>rfl
 | _ :: _,[],h=>by cases h
 | x :: xs,y :: ys,h=>by
  unfold HT.aM at h ⊢
  by_cases e:x=y
  ·subst e
   rw [if_pos rfl] at h ⊢
   exact jV xs ys h
  ·rw [if_neg e] at h
   rw [if_neg (Ne.symm e)]
   have:=of_decide_eq_true h
   exact decide_eq_false (by omega)
theorem lY:∀ (a b c:List Int),HT.aM a b=true→HT.aM b c=true→HT.aM a c=true
 | [],[],_,h,_=>by cases h
 | [],_ :: _,[],_,h=>by cases h
 | [],_ :: _,_ :: _,_,_=>rfl
 | _ :: _,[],_,h,_=>by cases h
 | _ :: _,_ :: _,[],_,h=>by cases h
 | x :: xs,y :: ys,z :: zs,h1,h2=>by
  unfold HT.aM at h1 h2 ⊢
  by_cases e1:x=y
  ·subst e1
   rw [if_pos rfl] at h1
   by_cases e2:x=z
   ·subst e2
    rw [if_pos rfl] at h2 ⊢
    exact lY xs ys zs h1 h2
   ·rw [if_neg e2] at h2 ⊢
    exact h2
  ·rw [if_neg e1] at h1
   have q1:=of_decide_eq_true h1
   by_cases e2:y=z
   ·subst e2
    rw [if_neg e1]
    exact h1
   ·rw [if_neg e2] at h2
    have q2:=of_decide_eq_true h2
    rw [if_neg (show x≠z by omega)]
    exact decide_eq_true (by omega)
theorem pI:∀ (a b:List Int),a≠b→HT.aM a b=false→HT.aM b a=true
 | [],[],h,_=>absurd rfl h
 | [],_ :: _,_,h=>by cases h
 | _ :: _,[],_,_=>rfl
 | x :: xs,y :: ys,hne,h=>by
  unfold HT.aM at h ⊢
  by_cases e:x=y
  ·subst e
   rw [if_pos rfl] at h ⊢
   exact pI xs ys (fun z=>hne (by rw [z])) h
  ·rw [if_neg e] at h
   rw [if_neg (Ne.symm e)]
   have:=of_decide_eq_false h
   exact decide_eq_true (by omega)
theorem u4 (l:List (List Int))(h:l.length≤5)(hne:∀ t∈l,t≠[])(hnd:l.Nodup):∃ l':List (List Int),cU [.lst (l.map fun t=> .tup (t.map D.int))]= .ok (.lst (l'.map fun t=> .tup (t.map D.int)))∧l'.length=l.length∧(∀ t,t∈l'↔t∈l)∧l'.Nodup∧∀ u∈l'.zip l'.tail,HT.aM u.2 u.1=false:=by
 by_cases h2:l.length < 2
 ·refine (Ba l ?_ rfl (fun _=>Iff.rfl) hnd (fun u hu=> ?_))
  ·unfold cU
   dsimp only
   rw [if_pos (by rw [List.length_map]; exact h2)]
  ·match l,h2,hu with
   | [],_,hu=>simp at hu
   | [_],_,hu=>simp at hu
   | _ :: _ :: _,h2,_=>simp at h2; omega
 ·have gd:∀ i,(Z:i < l.length)→l.getD i []=l[i]:=fun i Z=>by rw [List.getD_eq_getElem?_getD,cC Z]; rfl
  refine Fi (i9 (lt:=fun i j=>HT.aM (l.getD i []) (l.getD j [])) (fun a b c=>lY _ _ _) (fun a b=>jV _ _) (fun a b ha hb hab=>pI _ _ (by rw [gd a ha,gd b hb]; exact fun z=>hab ((List.getElem_inj hnd).mp z))) _ [] (fun _ z=>by cases z) (y7 (by omega) h)) fun p e h3 h4 h5 h6 h7=> ?_
  refine (Ba (p.toList.map fun i=>l.getD i []) ?_ (by rw [List.length_map,Array.length_toList]; exact h3) (fun t=> ?_) ?_ (fun u hu=> ?_))
  ·unfold cU
   dsimp only
   rw [if_neg (by rw [List.length_map]; exact h2),iR]
   dsimp only
   rw [if_pos,e]
   ·dsimp only
    rw [if_pos,List.map_map]
    ·rfl
    ·exact ⟨h3,List.all_eq_true.mpr fun i Z=>decide_eq_true (h4 i Z)⟩
   ·rw [Bool.and_eq_true,List.all_eq_true]
    refine ⟨fun t ht=> ?_,decide_eq_true (by omega)⟩
    cases t with
    | nil=>exact absurd rfl (hne [] ht)
    | cons _ _=>rfl
  ·rw [List.mem_map]
   constructor
   ·intro hZ22
    obtain ⟨i,Z,rfl⟩:=hZ22
    have hl:=h4 i Z
    rw [List.getD_eq_getElem?_getD,cC hl]
    exact List.getElem_mem hl
   ·intro ht
    obtain ⟨i,Z,e⟩:=List.getElem_of_mem ht
    refine ⟨i,h5 i Z,?_⟩
    rw [List.getD_eq_getElem?_getD,cC Z]
    exact e
  ·refine List.pairwise_map.mpr ((List.Pairwise.imp_of_mem ?_ h6))
   intro i j Z hj hij z
   have li:=h4 i Z
   have lj:=h4 j hj
   rw [List.getD_eq_getElem?_getD,cC li,List.getD_eq_getElem?_getD,cC lj] at z
   exact hij ((List.getElem_inj hnd).mp z)
  ·rw [← List.map_tail,List.zip_map] at hu
   obtain ⟨v,hv,rfl⟩:=List.mem_map.mp hu
   exact jV _ _ (h7 v hv)
noncomputable def Im:=And.intro @gc (And.intro @yp (And.intro @FH (And.intro @ym (And.intro @FE (And.intro @Dk (And.intro @lf (And.intro @AO (And.intro @AQ (And.intro @AJ (And.intro @AK (And.intro @aD (And.intro @sw (And.intro @bp (And.intro @uo (And.intro @dQ (And.intro @uq (And.intro @sy (And.intro @yo (And.intro @yn (And.intro @wR (And.intro @vC (And.intro @Ay (And.intro @FJ (And.intro @Cq (And.intro @FG (And.intro @FF (And.intro @Di (And.intro @DJ (And.intro @Dj (And.intro @FL (And.intro @DH (And.intro @Aw (And.intro @Dq (And.intro @DE (And.intro @Do (And.intro @Au (And.intro @AF (And.intro @AC (And.intro @AA (And.intro @Az (And.intro @AM (And.intro @AB (And.intro @yq (And.intro @DK (And.intro @Dv (And.intro @AG (And.intro @wQ (And.intro @Dx (And.intro @Dl (And.intro @AN (And.intro @AI (And.intro @FN (And.intro @DG (And.intro @AL (And.intro @pj (And.intro @vF (And.intro @pk (And.intro @yj (And.intro @yk (And.intro @DI (And.intro @Dy (And.intro @Dz (And.intro @DA (And.intro @DB (And.intro @DC (And.intro @qA (And.intro @Dp (And.intro @DF (And.intro @yi (And.intro @Du (And.intro @FI (And.intro @Dr (And.intro @Dt (And.intro @Ds (And.intro @qz (And.intro @yh (And.intro @su @kr)))))))))))))))))))))))))))))))))))))))))))))))))))))))))))))))))))))))))))))
def aN:=And.intro Im (And.intro @if_true.{1} (And.intro @if_false.{1} (And.intro @Bool.false_eq_true (And.intro @Bool.not_true (And.intro @Bool.not_false (And.intro @Bool.true_and (And.intro @Bool.false_and (And.intro @Bool.true_or (And.intro @Bool.false_or (And.intro @pC.eq_1 (And.intro @pN.eq_1 (And.intro @kI.eq_1 (And.intro @kB.eq_1 (And.intro @kS.eq_1 (And.intro @c1.eq_1 (And.intro @sL.eq_1 (And.intro @sT.eq_1 (And.intro @sR1.eq_1 (And.intro @sR2.eq_1 (And.intro @sE.eq_1 (And.intro @sZ.eq_1 (And.intro @oI.eq_1 (And.intro @oN.eq_1 (And.intro @tR.eq_1 (And.intro @nG.eq_1 (And.intro @yes.eq_1 (And.intro @bad1.eq_1 (And.intro @nxt.eq_1 (And.intro @List.length_map.{0,0} (And.intro @beq_self_eq_true.{0} @bne_self_eq_false.{0}))))))))))))))))))))))))))))))
section
variable{α:Type}{ρ ρ' ρ1:DS}{F R:DS→Out}{asg:D→DS→Option DS}{d:D}
noncomputable def dz (ok:List α→α→Bool):List α→List α→Bool
 | _,[]=>true
 | pre,x :: xs=>ok pre x && dz ok (pre ++ [x]) xs
theorem ls (d:D){st:List α→DS→Prop}{c:α→D}{ok:List α→α→Bool}:∀ (xs pre:List α) (ρ:DS),st pre ρ→
  (∀ pre' x post,pre ++ xs=pre' ++ x :: post→∀ ρ,st pre' ρ→∃ ρ1,asg (c x) ρ=some ρ1∧(ok pre' x=true→∃ ρ',F ρ1= .nx ρ'∧st (pre' ++ [x]) ρ')∧(ok pre' x=false→F ρ1= .rt d))→
  (dz ok pre xs=true→∃ ρ',cf asg F (xs.map c) ρ= .nx ρ'∧st (pre ++ xs) ρ')∧(dz ok pre xs=false→cf asg F (xs.map c) ρ= .rt d)
 | [],pre,ρ,h,_=>⟨fun _=>⟨ρ,rfl,by rw [List.append_nil]; exact h⟩,fun z=>by cases z⟩
 | x :: xs,pre,ρ,h,step=>by
  refine cy (step pre x xs rfl ρ h) fun ρ1 h1 h2 h3=> ?_
  have e:dz ok pre (x :: xs)=(ok pre x && dz ok (pre ++ [x]) xs):=rfl
  rw [e]
  cases q:ok pre x with
  | false=>exact ⟨fun z=>(by cases z),fun _=>AS h1 (h3 q)⟩
  | true=>
   rw [Bool.true_and]
   obtain ⟨ρ',h4,h5⟩:=h2 q
   have ih:=ls d (c:=c) (ok:=ok) xs (pre ++ [x]) ρ' h5 fun pre' y post e=>step pre' y post (by rw [← e,List.append_assoc]; rfl)
   have ef:cf asg F ((x :: xs).map c) ρ=cf asg F (xs.map c) ρ':=qG h1 h4
   rw [ef]
   refine ⟨fun z=> ?_,ih.2⟩
   obtain ⟨ρ2,h6,h7⟩:=ih.1 z
   refine ⟨ρ2,h6,?_⟩
   rw [List.append_assoc] at h7
   exact h7
theorem ju {x:Res D}{xs:List α}{c:α→D}(st:List α→DS→Prop)(ok:List α→α→Bool)(d:D)(h:st [] ρ)
  (step:∀ pre y post,xs=pre ++ y :: post→∀ ρ,st pre ρ→∃ ρ1,asg (c y) ρ=some ρ1∧(ok pre y=true→∃ ρ',F ρ1= .nx ρ'∧st (pre ++ [y]) ρ')∧(ok pre y=false→F ρ1= .rt d))
  (fin:dz ok [] xs=true→∀ ρ',st xs ρ'→fD (R ρ')=x) (fal:dz ok [] xs=false→ .ok d=x):fD ((cf asg F (xs.map c) ρ).then R)=x:=by
 obtain ⟨h1,h2⟩:=ls d (asg:=asg) (F:=F) (c:=c) (ok:=ok) xs [] ρ h step
 cases q:dz ok [] xs with
 | true=>
  obtain ⟨ρ',e,h'⟩:=h1 q
  rw [e]
  exact fin q ρ' h'
 | false=>
  rw [h2 q]
  exact fal q
theorem kU {P:DS→Prop}{xs:List α}{c:α→D}(st:List α→DS→Prop)(ok:List α→α→Bool)(h:st [] ρ)
  (step:∀ pre y post,xs=pre ++ y :: post→∀ ρ,st pre ρ→∃ ρ1,asg (c y) ρ=some ρ1∧(ok pre y=true→∃ ρ',F ρ1= .nx ρ'∧st (pre ++ [y]) ρ')∧(ok pre y=false→F ρ1= .rt d))
  (fin:∀ ρ',st xs ρ'→P ρ'):(dz ok [] xs=true→∃ ρ',cf asg F (xs.map c) ρ= .nx ρ'∧P ρ')∧(dz ok [] xs=false→cf asg F (xs.map c) ρ= .rt d):=by
 obtain ⟨h1,h2⟩:=ls d (asg:=asg) (F:=F) (c:=c) (ok:=ok) xs [] ρ h step
 exact ⟨fun z=>let ⟨ρ',e,h'⟩:=h1 z; ⟨ρ',e,fin ρ' h'⟩,h2⟩
theorem bU {p:α→Bool}:∀ (xs pre:List α),dz (fun _ x=>p x) pre xs=xs.all p
 | [],_=>rfl
 | x :: xs,pre=>by
  show (p x && dz (fun _ x=>p x) (pre ++ [x]) xs)=_
  rw [bU xs,List.all_cons]
end
theorem mO {n:Nat}{α:Type}{f:α→D}:∀ (l:List α),(∀ x∈l,bg n (f x)=true)→plL n (l.map f)=true
 | [],_=>by unfold plL; rfl
 | x :: l,h=>by
  rw [List.map_cons]
  unfold plL
  rw [h x (List.mem_cons_self ..),mO l fun y hy=>h y (cN hy)]
  rfl
theorem i_ {n:Nat}{i:Int}:bg n (.int i)=true:=by unfold bg; rfl
theorem nY {n:Nat}{α:Type}{f:α→D}{l:List α}(h:∀ x∈l,bg n (f x)=true):bg (n+1) (.lst (l.map f))=true:=by
 unfold bg
 rw [show n+1 - 1=n from rfl,mO l h,decide_eq_true (by omega)]
 rfl
theorem vP {d:D}(h:bg 20 d=true):uJ d d= .ok (.bl false):=by
 unfold uJ
 rw [if_pos ⟨h,h⟩,sr h]
 rfl
section
variable{ρ:DS}{F:DS→Out}{fi fa f:DS→Res D}{l row ds:List D}{j m t n:Nat}{d:D}{N:List Str}
theorem gs {R:DS→Out}{x:Res D}(ρ':DS)(h:F ρ= .nx ρ')(hr:fD (R ρ')=x):fD (ax F R ρ)=x:=by
 rw [gc,h]; exact hr
end
end L2
namespace L2
open PySem PySem.Spec PyProof.Rows
noncomputable def gA:D→List D
 | .lst l=>l
 | .tup l=>l
 | .dct _ l=>l
 | _=>[]
noncomputable def tF:D→List D→D
 | .lst _,l=> .lst l
 | .tup _,l=> .tup l
 | .dct ks _,l=> .dct ks l
 | d,_=>d
noncomputable def vN:HO→List V
 | .lst xs=>xs
 | .tup xs=>xs
 | .dT kvs=>kvs.map (·.2)
 | _=>[]
noncomputable def gi:List Nat→D→Option D
 | [],d=>some d
 | m :: p,d=>match (gA d)[m]? with | some c=>gi p c | none=>none
noncomputable def jc:List Nat→D→D→D
 | [],_,e=>e
 | m :: p,d,e=>match (gA d)[m]? with | some c=>tF d ((gA d).set m (jc p c e)) | none=>d
noncomputable def valP (H:Hp):List Nat→V→V→Prop
 | [],v,u=>u=v
 | m :: p,v,u=>∃ a o w,v= .ref a∧H a=some o∧(vN o)[m]?=some w∧valP H p w u
theorem valP.mono {H H':Hp}(s:Same H H'):∀ {p:List Nat} {v u:V},valP H p v u→valP H' p v u
 | [],_,_,h=>h
 | _ :: _,_,_,⟨a,o,w,e,h,k,r⟩=>⟨a,o,w,e,s _ _ h,k,valP.mono s r⟩
theorem valP.one {H:Hp}:∀ {p:List Nat} {v u u':V},valP H p v u→valP H p v u'→u=u'
 | [],_,_,_,h,h'=>h.trans h'.symm
 | _ :: _,_,_,_,⟨a,o,w,e,h,k,r⟩,⟨a',o',w',e',h',k',r'⟩=>by
  subst e
  cases e'
  rw [h] at h'
  cases h'
  rw [k] at k'
  cases k'
  exact valP.one r r'
theorem valP.snoc {H:Hp}{m:Nat}{a:Addr}{o:HO}{w:V}(h:H a=some o)(k:(vN o)[m]?=some w):∀ {p:List Nat} {v:V},valP H p v (.ref a)→valP H (p ++ [m]) v w
 | [],_,e=>(jT a o w e.symm h k rfl)
 | _ :: _,_,⟨a',o',w',e',h',k',r⟩=>⟨a',o',w',e',h',k',valP.snoc h k r⟩
theorem sB {d c:D}{m:Nat}(h:L2.flat d=true)(e:(gA d)[m]?=some c):L2.flat c=true:=by
 cases d with
 | lst l=>unfold L2.flat at h; cases h
 | dct ks l=>unfold L2.flat at h; cases h
 | tup l=>unfold L2.flat at h; exact ll h (List.mem_of_getElem? e)
 | _=>simp [gA] at e
theorem nr:∀ {p:List Nat} {d c:D},L2.flat d=true→gi p d=some c→L2.flat c=true
 | [],d,c,h,e=>by cases e; exact h
 | m :: p,d,c,h,e=>by
  have e':(match (gA d)[m]? with | some c=>gi p c | none=>none)=some c:=e
  cases q:(gA d)[m]? with
  | none=>rw [q] at e'; cases e'
  | some k=>rw [q] at e'; exact nr (sB h q) e'
section
variable{K:W.Frag}{G H:Hp}
theorem Ow.kid {n m:Nat}{d c:D}{v:V}{S:List Addr}(h:Ow K G H (n+1) d v S)(e:(gA d)[m]?=some c)(hc:L2.flat c=false) :
  ∃ a o T,v= .ref a∧H a=some o∧S=a :: T∧AllW (Ow K G H n) (gA d) (vN o) T∧∀ (H':Hp) l' T',H' a=some o→T'≠[]→AllW (Ow K G H' n) l' (vN o) T'→Ow K G H' (n+1) (tF d l') v (a :: T'):=by
 cases d with
 | lst l=>
  refine jA (h) fun a xs T e1 e2 e3 h1=> ?_
  exact (oJ a _ T e1 e2 e3 h1 (fun H' l' T' h' _ o=>(jT a xs T' e1 h' rfl o)))
 | dct ks l=>
  refine iN (h) fun a xs T e1 e2 e4 e3 h1=> ?_
  exact (oJ a _ T e1 e2 e3 h1 (fun H' l' T' h' _ o=>(oJ a xs T' e1 h' e4 rfl o)))
 | tup l=>
  rcases h with h | ⟨a,xs,T,e1,e2,e3,e5,h1⟩
  ·rw [sB h.1 e] at hc; cases hc
  ·exact (oJ a _ T e1 e2 e3 h1 (fun H' l' T' h' n o=> .inr (oJ a xs T' e1 h' rfl n o)))
 | _=>simp [gA] at e
theorem yt {l:List D}:L2.flat (.lst l)=false:=by unfold L2.flat; rfl
theorem yr {ks:List (List bH)}{l:List D}:L2.flat (.dct ks l)=false:=by unfold L2.flat; rfl
theorem Ow.at:∀ {p:List Nat} {n:Nat} {d c:D} {v:V} {S:List Addr},Ow K G H (n+p.length) d v S→gi p d=some c→L2.flat c=false→∃ u A,valP H p v u∧Ow K G H n c u A
 | [],n,d,c,v,S,h,e,hc=>by cases e; exact (mi v S rfl h)
 | m :: p,n,d,c,v,S,h,e,hc=>by
  have e':(match (gA d)[m]? with | some c=>gi p c | none=>none)=some c:=e
  cases q:(gA d)[m]? with
  | none=>rw [q] at e'; cases e'
  | some k=>
   rw [q] at e'
   have hk:L2.flat k=false:=by
    cases z:L2.flat k with
    | false=>rfl
    | true=>rw [nr z e'] at hc; cases hc
   refine iN (Ow.kid (n:=n+p.length) h q hk) fun a o T e1 e2 e3 h1 _=> ?_
   refine oY (h1.at q) fun w A L R g1 g2 g3 g4=> ?_
   refine mf (Ow.at g3 e' hc) fun u A' h2 h3=> ?_
   exact (mi u A' (jT a o w e1 e2 g1 h2) h3)
theorem tS {α:Type}{l:List α}{m:Nat}{x:α}(h:l[m]?=some x):l.set m x=l:=by
 apply List.ext_getElem?
 intro k
 by_cases hk:k=m
 ·subst hk; rw [List.getElem?_set_self (d7 h).1,h]
 ·rw [List.getElem?_set_ne (Ne.symm hk)]
theorem Ow.path:∀ {p:List Nat} {n:Nat} {d:D} {row:List D} {v:V} {S:List Addr},Ow K G H (n+1+p.length) d v S→gi p d=some (.lst row)→S.Nodup→
  ∃ b ys U L R,valP H p v (.ref b)∧H b=some (.lst ys)∧S=L ++ (b :: U) ++ R∧AllW (Ow K G H n) row ys U∧
   (∀ q t a,p=q ++ t→t≠[]→valP H q v (.ref a)→a≠b)∧
   ∀ ys' row' U',AllW (Ow K G (br H b (.lst ys')) n) row' ys' U'→Ow K G (br H b (.lst ys')) (n+1+p.length) (jc p d (.lst row')) v (L ++ (b :: U') ++ R)
 | [],n,d,row,v,S,h,e,nd=>by
  cases e
  refine jA (h) fun a xs T e1 e2 e3 h1=> ?_
  exact (DT a xs T ([]) ([]) e1.symm e2 (by rw [e3]; simp) h1 (fun q t a e hn=>absurd (List.append_eq_nil_iff.mp e.symm).2 hn) (fun ys' row' U' o=>(jT a ys' U' e1 aw (by simp) o)))
 | m :: p,n,d,row,v,S,h,e,nd=>by
  have e':(match (gA d)[m]? with | some c=>gi p c | none=>none)=some (.lst row):=e
  cases q:(gA d)[m]? with
  | none=>rw [q] at e'; cases e'
  | some k=>
   rw [q] at e'
   have hk:L2.flat k=false:=by
    cases z:L2.flat k with
    | false=>rfl
    | true=>have:=nr z e'; rw [yt] at this; cases this
   refine iN (Ow.kid (n:=n+1+p.length) h q hk) fun a o T e1 e2 e3 h1 back=> ?_
   refine oY (h1.at q) fun w A L R g1 g2 g3 g4=> ?_
   subst e3
   obtain ⟨haT,hT⟩:=List.nodup_cons.mp nd
   rw [g2] at hT haT
   obtain ⟨h2,h3,h4⟩:=List.nodup_append.mp hT
   obtain ⟨h5,h6,h7⟩:=List.nodup_append.mp h2
   refine Fh (Ow.path g3 e' h6) fun b ys U L2 R2 k1 k2 k3 k4 k6 k5=> ?_
   have hbA:b∈A:=by rw [k3]; exact List.mem_append_left _ (List.mem_append_right _ (List.mem_cons_self ..))
   have nb:∀ c,c∈L∨c∈R→c≠b:=fun c hc z=>by
    subst z
    rcases hc with y | y
    ·exact h7 c y c hbA rfl
    ·exact h4 c (List.mem_append_right _ hbA) c y rfl
   have hab:a≠b:=fun z=>haT (z ▸ List.mem_append_left _ (List.mem_append_right _ hbA))
   refine (DT b ys U (a :: (L ++ L2)) (R2 ++ R) (jT a o w e1 e2 g1 k1) k2 (by rw [g2,k3]; simp [List.append_assoc]) k4 (fun q t x eq hn hx=> ?_) (fun ys' row' U' ou=> ?_))
   ·cases q with
    | nil=>cases (show V.ref x=v from hx); cases e1; exact hab
    | cons i q=>
     cases eq
     refine jA (hx) fun a2 o2 w2 z1 z2 z3 z4=> ?_
     subst e1
     cases z1
     rw [e2] at z2
     cases z2
     rw [g1] at z3
     cases z3
     exact k6 q t x rfl hn z4
   have big:=g4 (Ow K G (br H b (.lst ys')) (n+1+p.length)) (fun d v C hC z=>z.mono (.refl _) fun c hc u eu=>by rw [al (nb c (hC c hc))]; exact eu) (jc p k (.lst row')) w (L2 ++ (b :: U') ++ R2) (k5 ys' row' U' ou)
   rw [tS g1] at big
   have fin:=back (br H b (.lst ys')) ((gA d).set m (jc p k (.lst row'))) (L ++ (L2 ++ (b :: U') ++ R2) ++ R) (by rw [al hab]; exact e2) (by intro z; simp at z) big
   have es:jc (m :: p) d (.lst row')=tF d ((gA d).set m (jc p k (.lst row'))):=by
    show (match (gA d)[m]? with | some c=>tF d ((gA d).set m (jc p c (.lst row'))) | none=>d)=_
    rw [q]
   rw [es]
   have el:a :: (L ++ L2) ++ (b :: U') ++ (R2 ++ R)=a :: (L ++ (L2 ++ (b :: U') ++ R2) ++ R):=by simp [List.append_assoc]
   rw [el]
   exact fin
end
section
variable{K:W.Frag}{μ:List Nat}{Ge B G H:Hp}{σ:St}{ρ:DS}{fp:Nat→List Addr}{j n:Nat}
theorem Rw.path {p:List Nat}{d:D}{row:List D}(R:Rw K μ Ge B G H σ ρ fp)(hm:μ.getD j 0=n+1+p.length)(hr:ρ[j]?=some (some d))(hp:gi p d=some (.lst row)) :
  ∃ v b ys U,σ[j]?=some (some v)∧valP H p v (.ref b)∧H b=some (.lst ys)∧AllW (Ow K G H n) row ys U∧U.Nodup∧b∉U∧b∈fp j∧(∀ c∈U,c∈fp j)∧(∀ q t a,p=q ++ t→t≠[]→valP H q v (.ref a)→a≠b)∧
   ∀ ys' row' U',AllW (Ow K G (br H b (.lst ys')) n) row' ys' U'→U'.Nodup→(∀ c∈U',c∈U∨((G c=none∧B c=none)∧∀ i,c∉fp i))→∃ fp',Rw K μ Ge B G (br H b (.lst ys')) σ (ρ.set j (some (jc p d (.lst row')))) fp':=by
 obtain ⟨v,hv,o⟩:=R.sl j d hr
 rw [hm] at o
 refine Fh (o.path hp (R.nd j)) fun b ys U L Q h1 h2 h3 h4 h6 h5=> ?_
 have nd:=R.nd j
 rw [h3] at nd
 obtain ⟨n1,n2,n3⟩:=List.nodup_append.mp nd
 obtain ⟨n4,n5,n6⟩:=List.nodup_append.mp n1
 obtain ⟨n7,n8⟩:=List.nodup_cons.mp n5
 have sb:b∈fp j:=by rw [h3]; exact List.mem_append_left _ (List.mem_append_right _ (List.mem_cons_self ..))
 have sU:∀ c∈U,c∈fp j:=fun c r=>by rw [h3]; exact List.mem_append_left _ (List.mem_append_right _ (cN r))
 have sL:∀ c∈L,c∈fp j:=fun c r=>by rw [h3]; exact List.mem_append_left _ (List.mem_append_left _ r)
 have sQ:∀ c∈Q,c∈fp j:=fun c r=>by rw [h3]; exact List.mem_append_right _ r
 refine ⟨v,b,ys,U,hv,h1,h2,h4,n8,n7,sb,sU,h6,fun ys' row' U' ou nU hU=> ?_⟩
 have ndm:(L ++ (b :: U') ++ Q).Nodup:=jn nd (List.nodup_cons.mpr ⟨fun z=>by
   rcases hU b z with y | y
   ·exact n7 y
   ·exact y.2 j sb,nU⟩) fun c r=>by
  rcases List.mem_cons.mp r with z | z
  ·subst z; exact .inl (List.mem_cons_self ..)
  ·rcases hU c z with y | y
   ·exact .inl (cN y)
   ·exact .inr ⟨fun x=>y.2 j (sL c x),fun x=>y.2 j (sQ c x)⟩
 have old:∀ c∈L ++ (b :: U') ++ Q,c∈fp j∨((G c=none∧B c=none)∧∀ i,c∉fp i):=fun c r=>by
  rcases List.mem_append.mp r with z | z
  ·rcases List.mem_append.mp z with y | y
   ·exact .inl (sL c y)
   ·rcases List.mem_cons.mp y with x | x
    ·subst x; exact .inl sb
    ·exact (hU c x).imp (sU c) id
  ·exact .inl (sQ c z)
 refine ⟨_,R.write (S:=L ++ (b :: U') ++ Q) sb hv (by rw [hm]; exact h5 ys' row' U' ou) ndm (fun c r=> ?_) fun i hi c r hci=> ?_⟩
 ·rcases old c r with y | y
  ·exact ⟨R.gf j c y,R.ob j c y⟩
  ·exact y.1
 ·rcases old c r with y | y
  ·exact hi (R.dj i j c hci y)
  ·exact y.2 i hci
end
inductive tAt (K:W.Frag)(E:XK)(μ:List Nat)(j:Nat)(g:DS→Res (List Nat))(σ:St)(H:Hp)(Q:VK):Prop
 | mk (Ge B G:Hp) (ρ:DS) (fp:Nat→List Addr) (R:Rw K μ Ge B G H σ ρ fp) (o:OkR E B (g ρ)) (k:∀ p,g ρ= .ok p→∀ v0 v G' H',σ[j]?=some (some v0)→valP H' p v0 v→Rw K μ Ge B G' H' σ ρ fp→Same G G'→Same H H'→Q v H')
noncomputable def Fs (X:Cx)(E:XK)(μ:List Nat)(j:Nat)(e:Expr)(g:DS→Res (List Nat)):Prop:=PE X e (tAt X.K E μ j g)
noncomputable def wB (j:Nat):DS→Res (List Nat):=fun ρ=>match ρ[j]? with | some (some _)=> .ok [] | _=> .bad
section
variable{X:Cx}{E:XK}{μ:List Nat}{r n j:Nat}
theorem uh {x:Str}{px:Pos}(hN:X.N[j]?=some x)(hv:xP X.env.scope x)(hd:(x == ("__debug__" :Str))=false:=by decide)(hcd:(x == ("__classdict__" :Str))=false:=by decide):Fs X E μ j (.Name x px) (wB j):=by
 intro pins s σ H Q I hZ23
 obtain ⟨Ge,B,G,ρ,fp,R,ho,k⟩:=hZ23
 have hs:∃ d,ρ[j]?=some (some d):=by
  unfold wB at ho
  split at ho
  ·rename_i d q; exact ⟨d,q⟩
  ·exact ho.elim
 obtain ⟨d,hd'⟩:=hs
 obtain ⟨v,hv',_⟩:=R.sl j d hd'
 exact iq hN hv hd hcd pins s σ H Q I ⟨v,hv',k [] (by unfold wB; rw [hd']) v v G H hv' rfl R (.refl _) (.refl _)⟩
theorem Rw.node {K:W.Frag}{Ge B G H:Hp}{σ:St}{ρ:DS}{fp:Nat→List Addr}{p:List Nat}{d c:D}{m:Nat}(R:Rw K μ Ge B G H σ ρ fp)(hm:μ.getD j 0=m+p.length)(hr:ρ[j]?=some (some d))(hp:gi p d=some c)(hc:L2.flat c=false){v0 v:V}(hv:σ[j]?=some (some v0))(h:valP H p v0 v):∃ A,Ow K G H m c v A:=by
 obtain ⟨w,hw,o⟩:=R.sl j d hr
 rw [hv] at hw
 cases hw
 rw [hm] at o
 refine mf (o.at hp hc) fun u A h1 h2=> ?_
 cases valP.one h h1
 exact ⟨A,h2⟩
noncomputable def oR (ρ:DS)(j n:Nat)(p:List Nat)(f:List D→Out):Out:=if p.length=n then (match ρ[j]? with
 | some (some t)=>(match gi p t with | some (.lst row)=>f row | _=> .bad)
 | _=> .bad) else .bad
noncomputable def xY (ρ:DS)(j:Nat)(p:List Nat)(row:List D)(d:D):Out:=match ρ[j]? with
 | some (some t)=>if aX row.length=true then .nx (ρ.set j (some (jc p t (.lst (row ++ [d]))))) else .bad
 | _=> .bad
noncomputable def qn (j n:Nat)(g:DS→Res (List Nat))(f:DS→Res D):DS→Out:=fun ρ=>(g ρ).out fun p=>(f ρ).out fun d=>oR ρ j n p fun row=>xY ρ j p row d
theorem wf {ρ:DS}{n:Nat}{p:List Nat}{f:List D→Out}{B:Hp}(h:OkO E B (oR ρ j n p f)):p.length=n∧∃ t row,ρ[j]?=some (some t)∧gi p t=some (.lst row)∧oR ρ j n p f=f row:=by
 unfold oR at h
 by_cases hn:p.length=n
 ·rw [if_pos hn] at h
  refine ⟨hn,?_⟩
  cases hr:ρ[j]? with
  | none=>rw [hr] at h; exact h.elim
  | some od=>
  cases od with
  | none=>rw [hr] at h; exact h.elim
  | some t=>
  rw [hr] at h
  dsimp only at h
  cases hp:gi p t with
  | none=>rw [hp] at h; exact h.elim
  | some c=>
  rw [hp] at h
  cases c with
  | lst row=>exact (dJ t row rfl hp (by unfold oR; rw [if_pos hn,hr]; dsimp only; rw [hp]))
  | _=>exact h.elim
 ·rw [if_neg hn] at h; exact h.elim
theorem v9 {o e:Expr}{apos cpos pos:Pos}{g:DS→Res (List Nat)}{f:DS→Res D}{m:Nat}(hm:μ.getD j 0=m+1+n)(hpa:Fs X E μ j o g)(h:PZ X E μ m e f)(hex:∀ ρ c,f ρ≠ .exc c)
  (hs:starEach [e] X.env=(false,eval e X.env) :: starEach [] X.env:=by rfl)
  (hbase:attributeBase o "append" X.env (eval o X.env)=eval o X.env:=by rfl)
  (hfew:((backTo cpos (starEach [e] X.env)).all (fun x=> !x.1) && (backToKw cpos (keywordEach [] X.env)).all (fun x=>x.1.isSome) && decide (([e].length+([]:List Keyword).length+if ([]:List Keyword).isEmpty=true then 0 else 1) < 30))=true:=by rfl)
  (hline:(apos.endLine == cpos.line)=true:=by rfl)
  (hsw:swapsWith (.Call (.Attribute o "append" apos) [e] [] cpos) none pos.line X.env=pure false:=by rfl) :
  mD X E μ r (.Expr (.Call (.Attribute o "append" apos) [e] [] cpos) pos) (qn j n g f):=by
 intro pins s σ Ge B G H ρ fp I R ho
 have hp:=vY (apos:=apos) (cpos:=cpos) (r:=iu) PySem.F.plainAttrs_list PySem.F.slot_list_append PySem.F.type_list_append (show Fp X "list.append" iu from lE) hpa (il (tu h) lG hs) hbase hfew hline hs rfl
 refine aT (jq hp hsw pins s σ H { nx:=fun σ' H'=>∃ O G' P,qn j n g f ρ= .nx O∧σ'=σ∧Rw X.K μ Ge B G' H' σ O P∧Same G G',bk:=fun _ _=>False,ct:=fun _ _=>False,rt:=fun _ _=>False } I ⟨Ge,B,G,ρ,fp,R,ho.res,fun p ep v0 v G1 H1 hv hval R1 sg sh=> ?_⟩) fun fl s1 L=> ?_
 ·have k:=ho.res2 ep (Same.refl B)
  have hfd:∃ d,f ρ= .ok d:=by
   cases q:f ρ with
   | ok d=>exact ⟨d,rfl⟩
   | exc c=>exact absurd q (hex ρ c)
   | bad=>rw [q] at k; exact k.elim
  obtain ⟨d0,a⟩:=hfd
  have kk:=k.res2 a (Same.refl B)
  have e0:qn j n g f ρ=oR ρ j n p fun row=>xY ρ j p row d0:=by unfold qn; rw [bV ep,bV a]
  refine rJ (wf kk) fun hn t row hr hg e1=> ?_
  rw [e1] at kk
  subst hn
  have e2:xY ρ j p row d0=if aX row.length=true then .nx (ρ.set j (some (jc p t (.lst (row ++ [d0]))))) else .bad:=by unfold xY; rw [hr]
  rw [e2] at kk
  by_cases hc:aX row.length=true
  ·have e3:=(e0.trans e1).trans (e2.trans (if_pos hc))
   refine Ci (R1.path hm hr hg) fun v1 b ys U c0 c1 c2 c3 c4 c5 c6 c7 c8 c9=> ?_
   rw [hv] at c0
   cases c0
   have:=hval.one c1
   subst this
   refine ⟨.inl ⟨rfl,ys,.inl (.inl c2)⟩,?_⟩
   refine ⟨Ge,B,G1,ρ,fp,R1,by rw [a]; trivial,fun d ed v G2 H2 S R2 sg2 sh2 o w=> ?_⟩
   rw [a] at ed
   cases ed
   refine (oJ b ys v rfl rfl (sh2 _ _ c2) (by rw [← c3.length]; exact ky hc) ?_)
   refine Ci (R2.path hm hr hg) fun v1 b2 ys2 U2 p0 p1 p2 p3 p4 p5 p6 p7 p8 p9=> ?_
   rw [hv] at p0
   cases p0
   have:=(c1.mono sh2).one p1
   cases this
   rw [sh2 _ _ c2] at p2
   cases p2
   have fr:=R2.freshOf w R1
   have neU:∀ c,c∈U2→c≠b:=fun c J z=>p5 (z ▸ J)
   have neS:∀ c,c∈S→c≠b:=fun c J z=>(fr c J).2 j (z ▸ p6)
   obtain ⟨P,R3⟩:=p9 (ys ++ [v]) (row ++ [d0]) (U2 ++ S) (.append (p3.mono fun d v A _ hA z=>z.mono (.refl _) fun c J u e=>by rw [al (neU c (hA c J))]; exact e) (.one (o.mono (.refl _) fun c J u e=>by rw [al (neS c J)]; exact e))) (List.nodup_append.mpr ⟨p4,w.1,fun c J c2 hc2 e=>by subst e; exact (fr c hc2).2 j (p7 c J)⟩) (fun c J=>(List.mem_append.mp J).imp id (fr c))
   exact (jT _ _ P e3 rfl R3 (sg.trans sg2))
  ·rw [if_neg hc] at kk; exact kk.elim
 ·cases fl with
  | next=>
   obtain ⟨σ',H',I',O,G',P,e1,e2,R',sg⟩:=L
   subst e2
   exact ⟨O,_,G',H',P,e1,I',R',sg⟩
  | brk=>obtain ⟨_,_,_,L⟩:=L; exact L.elim
  | cont=>obtain ⟨_,_,_,L⟩:=L; exact L.elim
  | ret u=>obtain ⟨_,_,_,_,_,L⟩:=L; exact L.elim
end
section
variable{X:Cx}{E:XK}{μ:List Nat}{r n j:Nat}
noncomputable def wS (ρ:DS)(j:Nat)(p:List Nat)(row:List D)(d:D):Out:=match ρ[j]?,d with
 | some (some t),.lst l=>if aX (row.length+l.length)=true then .nx (ρ.set j (some (jc p t (.lst (row ++ l))))) else .bad
 | _,_=> .bad
noncomputable def qF (j n:Nat)(g:DS→Res (List Nat))(f:DS→Res D):DS→Out:=fun ρ=>(g ρ).out fun p=>(f ρ).out fun d=>oR ρ j n p fun row=>wS ρ j p row d
theorem BJ {o e:Expr}{apos cpos pos:Pos}{g:DS→Res (List Nat)}{f:DS→Res D}(hm:μ.getD j 0=0+1+n)(hpa:Fs X E μ j o g)(h:PZ X E μ 0 e f)(hex:∀ ρ c,f ρ≠ .exc c)
  (hs:starEach [e] X.env=(false,eval e X.env) :: starEach [] X.env:=by rfl)
  (hbase:attributeBase o "extend" X.env (eval o X.env)=eval o X.env:=by rfl)
  (hfew:((backTo cpos (starEach [e] X.env)).all (fun x=> !x.1) && (backToKw cpos (keywordEach [] X.env)).all (fun x=>x.1.isSome) && decide (([e].length+([]:List Keyword).length+if ([]:List Keyword).isEmpty=true then 0 else 1) < 30))=true:=by rfl)
  (hline:(apos.endLine == cpos.line)=true:=by rfl)
  (hsw:swapsWith (.Call (.Attribute o "extend" apos) [e] [] cpos) none pos.line X.env=pure false:=by rfl) :
  mD X E μ r (.Expr (.Call (.Attribute o "extend" apos) [e] [] cpos) pos) (qF j n g f):=by
 intro pins s σ Ge B G H ρ fp I R ho
 have hp:=vY (apos:=apos) (cpos:=cpos) (r:=rg) PySem.F.plainAttrs_list PySem.F.slot_list_extend PySem.F.type_list_extend (show Fp X "list.extend" rg from xt) hpa (il (tu h) lG hs) hbase hfew hline hs rfl
 refine aT (jq hp hsw pins s σ H { nx:=fun σ' H'=>∃ O G' P,qF j n g f ρ= .nx O∧σ'=σ∧Rw X.K μ Ge B G' H' σ O P∧Same G G',bk:=fun _ _=>False,ct:=fun _ _=>False,rt:=fun _ _=>False } I ⟨Ge,B,G,ρ,fp,R,ho.res,fun p ep v0 v G1 H1 hv hval R1 sg sh=> ?_⟩) fun fl s1 J=> ?_
 ·have k:=ho.res2 ep (Same.refl B)
  have hfd:∃ d,f ρ= .ok d:=by
   cases q:f ρ with
   | ok d=>exact ⟨d,rfl⟩
   | exc c=>exact absurd q (hex ρ c)
   | bad=>rw [q] at k; exact k.elim
  obtain ⟨d0,a⟩:=hfd
  have kk:=k.res2 a (Same.refl B)
  have e0:qF j n g f ρ=oR ρ j n p fun row=>wS ρ j p row d0:=by unfold qF; rw [bV ep,bV a]
  refine rJ (wf kk) fun hn t row hr hg e1=> ?_
  rw [e1] at kk
  subst hn
  unfold wS at kk
  rw [hr] at kk
  cases d0 with
  | lst l=>
   dsimp only at kk
   by_cases hc:aX (row.length+l.length)=true
   ·have e2:wS ρ j p row (.lst l)= .nx (ρ.set j (some (jc p t (.lst (row ++ l))))):=by unfold wS; rw [hr]; exact if_pos hc
    refine Ci (R1.path hm hr hg) fun v1 b ys U c0 c1 c2 c3 c4 c5 c6 c7 c8 c9=> ?_
    rw [hv] at c0
    cases c0
    have:=hval.one c1
    subst this
    refine ⟨.inl ⟨rfl,ys,.inl (.inl c2)⟩,Ge,B,G1,ρ,fp,R1,by rw [a]; trivial,fun d ed v G2 H2 S R2 sg2 sh2 o w=> ?_⟩
    rw [a] at ed
    cases ed
    obtain ⟨_,rp⟩:=o
    rw [rep_lst] at rp
    refine bA (rp) fun q zs hS144 lz rl=> ?_; subst hS144
    refine Ci (R2.path hm hr hg) fun v1 b2 ys2 U2 p0 p1 p2 p3 p4 p5 p6 p7 p8 p9=> ?_
    rw [hv] at p0
    cases p0
    have:=(c1.mono sh2).one p1
    cases this
    rw [sh2 _ _ c2] at p2
    cases p2
    obtain ⟨eU,rr⟩:=p3.zero
    obtain ⟨P,R3⟩:=p9 (ys ++ zs) (row ++ l) [] (.of0 (rr.append rl)) List.nodup_nil (fun c h=>by cases h)
    exact ⟨b,q,ys,zs,rfl,rfl,sh2 _ _ c2,R2.gh _ _ lz.h,by rw [← rr.length,← rl.length]; exact b0 hc,_,_,P,(e0.trans e1).trans e2,rfl,R3,sg.trans sg2⟩
   ·rw [if_neg hc] at kk; exact kk.elim
  | _=>exact kk.elim
 ·cases fl with
  | next=>
   obtain ⟨σ',H',I',O,G',P,e1,e2,R',sg⟩:=J
   subst e2
   exact ⟨O,_,G',H',P,e1,I',R',sg⟩
  | brk=>obtain ⟨_,_,_,J⟩:=J; exact J.elim
  | cont=>obtain ⟨_,_,_,J⟩:=J; exact J.elim
  | ret u=>obtain ⟨_,_,_,_,_,J⟩:=J; exact J.elim
end
noncomputable def ci (ks:List (List bH))(k:List bH):Option Nat:=ks.findIdx? (fun q=>decide (q=k))
theorem jU {q k:List bH}{ks:List (List bH)}:ci (q :: ks) k=if q=k then some 0 else (ci ks k).map (· + 1):=by
 unfold ci
 rw [List.findIdx?_cons]
 by_cases e:q=k
 ·rw [decide_eq_true e,if_pos e]; rfl
 ·rw [decide_eq_false e,if_neg e]; rfl
theorem lw {k:List bH}:∀ {kvs:List (List bH×V)} {m:Nat},ci (kvs.map (·.1)) k=some m→iL kvs k=(kvs.map (·.2))[m]?
 | [],m,h=>by cases h
 | (q,v) :: r,m,h=>by
  rw [List.map_cons,jU] at h
  by_cases e:q=k
  ·rw [if_pos e] at h; cases h; exact kX e
  ·rw [if_neg e] at h
   cases z:ci (r.map (·.1)) k with
   | none=>rw [z] at h; cases h
   | some m'=>
    rw [z] at h
    cases h
    rw [jd e,lw z]
    rfl
theorem nF {k:List bH}{ks:List (List bH)}{m:Nat}(h:ci ks k=some m):m < ks.length:=by
 unfold ci at h
 exact (List.findIdx?_eq_some_iff_getElem.mp h).1
theorem uB {k:List bH}{kvs:List (List bH×V)}(h:ci (kvs.map (·.1)) k=none):iL kvs k=none:=by
 induction kvs with
 | nil=>rfl
 | cons p r ih=>
  rw [List.map_cons,jU] at h
  by_cases e:p.1=k
  ·rw [if_pos e] at h; cases h
  ·rw [if_neg e] at h
   rw [jd e]
   apply ih
   cases z:ci (r.map (·.1)) k with
   | none=>rfl
   | some m'=>rw [z] at h; cases h
theorem pM {k:List bH}{v:V}:∀ {kvs:List (List bH×V)},¬ k∈kvs.map (·.1)→(kvs.map fun kv=>if kv.1=k then (kv.1,v) else kv)=kvs
 | [],_=>rfl
 | p :: r,h=>by
  have h1:¬ p.1=k:=fun e=>h (by rw [List.map_cons,e]; exact List.mem_cons_self ..)
  rw [List.map_cons,if_neg h1,pM fun z=>h (cN z)]
theorem wg {k:List bH}{v:V}:∀ {kvs:List (List bH×V)} {m:Nat},(kvs.map (·.1)).Nodup→ci (kvs.map (·.1)) k=some m→(kvs.map fun kv=>if kv.1=k then (kv.1,v) else kv).map (·.1)=kvs.map (·.1)∧(kvs.map fun kv=>if kv.1=k then (kv.1,v) else kv).map (·.2)=(kvs.map (·.2)).set m v
 | [],m,_,h=>by cases h
 | p :: r,m,nd,h=>by
  rw [List.map_cons,jU] at h
  rw [List.map_cons] at nd
  obtain ⟨n1,n2⟩:=List.nodup_cons.mp nd
  by_cases e:p.1=k
  ·rw [if_pos e] at h
   cases h
   rw [List.map_cons,if_pos e,pM (by rw [← e]; exact n1)]
   exact ⟨rfl,rfl⟩
  ·rw [if_neg e] at h
   cases z:ci (r.map (·.1)) k with
   | none=>rw [z] at h; cases h
   | some m'=>
    rw [z] at h
    cases h
    obtain ⟨a,b⟩:=wg n2 z
    rw [List.map_cons,if_neg e]
    exact ⟨by rw [List.map_cons,List.map_cons,a],by rw [List.map_cons,List.map_cons,b]; rfl⟩
theorem zw {k:List bH}{v:V}{kvs:List (List bH×V)}{m:Nat}(nd:(kvs.map (·.1)).Nodup)(h:ci (kvs.map (·.1)) k=some m):(fH kvs k v).map (·.1)=kvs.map (·.1)∧(fH kvs k v).map (·.2)=(kvs.map (·.2)).set m v:=by
 have e:fH kvs k v=kvs.map fun kv=>if kv.1=k then (kv.1,v) else kv:=by
  unfold fH
  rw [if_pos (by rw [kW,lw h,cC (by rw [List.length_map]; have:=nF h; rwa [List.length_map] at this)]; rfl)]
 rw [e]
 exact wg nd h
noncomputable def mv (ks:List (List bH))(l:List D)(k:List bH)(d:D):D:=match ci ks k with
 | some m=> .dct ks (l.set m d)
 | none=> .dct (ks ++ [k]) (l ++ [d])
noncomputable def qr (j:Nat)(ks:List (List bH))(l:List D)(ρ:DS)(d i:D):Out:=match i with
 | .tup kd=>(match gz kd with | some k=>if aX ks.length=true then .nx (ρ.set j (some (mv ks l k d))) else .bad | none=> .bad)
 | _=> .bad
noncomputable def ke (j:Nat)(fi f:DS→Res D):DS→Out:=fun ρ=>match ρ[j]? with
 | some (some (.dct ks l))=>(f ρ).out fun d=>(fi ρ).out fun i=>qr j ks l ρ d i
 | _=> .bad
noncomputable def FC (ρ:DS)(j:Nat)(p:List Nat)(i:D):Res (List Nat):=match ρ[j]? with
 | some (some d)=>(match gi p d with
  | some (.dct ks l)=>(match i with | .tup kd=>(match gz kd with | some k=>(match ci ks k with | some m=> .ok (p ++ [m]) | none=> .bad) | none=> .bad) | _=> .bad)
  | _=> .bad)
 | _=> .bad
noncomputable def Ae (j n:Nat)(g:DS→Res (List Nat))(fi:DS→Res D):DS→Res (List Nat):=fun ρ=>(g ρ).bind fun p=>(fi ρ).bind fun i=>if p.length=n then FC ρ j p i else .bad
theorem lU {H:Hp}:∀ {kvs:List (List bH×V)} {xs:List (List bH×Addr×Value)},Paired (fun (p:List bH×V) (q:List bH×Addr×Value)=>p.1=q.1∧H q.2.1=some (.tup (p.1.map kV))∧RelV p.2 q.2.2) kvs xs→kvs.map (·.1)=xs.map (·.1)
 | _,_,.nil=>rfl
 | _,_,.cons q t=>by rw [List.map_cons,List.map_cons,q.1,lU t]
theorem Inv.dnd {X:Cx}{pins:List (Addr×Obj)}{σ:St}{H:Hp}{s:Shared}{a:Addr}{kvs:List (List bH×V)}(I:Inv X pins σ H s)(h:H a=some (.dT kvs)):(kvs.map (·.1)).Nodup:=by
 refine Fg (I.hok a _ h) fun _ _ xs pr _ _ _ _ _ _ _ nd=> ?_
 rw [lU pr]; exact nd
section
variable{X:Cx}{E:XK}{μ:List Nat}{r n j:Nat}
theorem wd {pos:Pos}:PN X E (n+1) (.Dict [] [] pos) (fun _=> .ok (.dct [] [])):=by
 intro pins s σ G H ρ I hs hr ho
 refine aT (zh pins s σ H (fun v H'=>∃ p,v= .ref p∧H p=none∧H'=br H p (.dT [])) I fun p hp=>(iI p rfl hp rfl)) fun u s' hZ161=> ?_
 obtain ⟨v,H',I',rv,p,e1,hp,e2⟩:=hZ161
 subst e1 e2
 refine ⟨.dct [] [],rfl,.ref p,G,_,[p],I',rv,(Ext.refl hs).hnew hp _,(Ga p ([]) ([]) rfl aw rfl rfl rfl rfl),by simp,fun a ha=> ?_⟩
 have e:a=p:=by simpa using ha
 subst e
 refine ⟨hp,?_⟩
 cases q:G a with
 | none=>rfl
 | some o=>have:=hs a o q; rw [hp] at this; cases this
theorem Co {o i:Expr}{pos:Pos}{g:DS→Res (List Nat)}{fi:DS→Res D}{m:Nat}(hu:X.A.units+64 < cLine)(hm:μ.getD j 0=m+1+n)(ho:Fs X E μ j o g)(hi:PD X E i fi)(hpi:zZ i:=by intro _ _; rfl):Fs X E μ j (.Subscript o i pos) (Ae j n g fi):=by
 intro pins s σ H Q I hZ24
 obtain ⟨Ge,B,G,ρ,fp,R,hok,k⟩:=hZ24
 refine v6 (pos:=pos) (by omega) ho (fL hi) hpi pins s σ H Q I ?_
 refine ⟨Ge,B,G,ρ,fp,R,hok.fst,fun p ep v0 v G1 H1 hv hval R1 sg sh=>⟨oV fp G1 H1,ρ,R1.vh,R1.ro,(hok.snd ep (Same.refl B)).fst.le R1.bh,fun di ei vi G3 H3 x3 ri=> ?_⟩⟩
 have K:=(hok.snd ep (Same.refl B)).snd ei (Same.refl B)
 by_cases hn:p.length=n
 ·subst hn
  rw [if_pos rfl] at K
  have e0:Ae j p.length g fi ρ=FC ρ j p di:=by unfold Ae; rw [ep,aD,ei,aD,if_pos rfl]
  unfold FC at K
  cases hr:ρ[j]? with
  | none=>rw [hr] at K; exact K.elim
  | some od=>
  cases od with
  | none=>rw [hr] at K; exact K.elim
  | some d=>
  rw [hr] at K
  dsimp only at K
  cases hp:gi p d with
  | none=>rw [hp] at K; exact K.elim
  | some c=>
  rw [hp] at K
  cases c with
  | dct ks l=>
   dsimp only at K
   cases di with
   | tup kd=>
    dsimp only at K
    cases q1:gz kd with
    | none=>rw [q1] at K; exact K.elim
    | some kq=>
    rw [q1] at K
    dsimp only at K
    cases q2:ci ks kq with
    | none=>rw [q2] at K; exact K.elim
    | some m'=>
    refine Cg (R1.node (m:=m+1) hm hr hp yr hv hval) fun A a L T e1 e2 e4 e3 h1=> ?_
    subst e1 e4
    rw [rep_tup] at ri
    refine bA (ri) fun b xs hS145 tb rk=> ?_; subst hS145
    have hx:=jm rk q1
    subst hx
    have hlt:m' < (L.map (·.2)).length:=by have:=nF q2; rwa [List.length_map] at this ⊢
    have hw:(L.map (·.2))[m']?=some ((L.map (·.2))[m']):=cC hlt
    refine (dJ a ((L.map (·.2))[m']) rfl (.inr (jT L kq b (.inl (x3.hh _ _ e2)) rfl (x3.gh _ _ tb.h) (by rw [lw q2]; exact hw.symm))) ?_)
    refine k (p ++ [m']) (e0.trans ?_) v0 _ (pD (qK fp) G3) H3 hv ((hval.mono x3.hh).snoc (x3.hh _ _ e2) hw) (R1.grow x3) (sg.trans (R1.gg x3)) (sh.trans x3.hh)
    unfold FC; rw [hr]; dsimp only; rw [hp]; dsimp only; rw [q1]; dsimp only; rw [q2]
   | _=>exact K.elim
  | _=>exact K.elim
 ·rw [if_neg hn] at K; exact K.elim
theorem v_ {x:Str}{i e:Expr}{px tpos pos:Pos}{fi f:DS→Res D}(hu:X.A.units+64 < cLine)(hm:μ.getD j 0=n+1)(hN:X.N[j]?=some x)(hv:xP X.env.scope x)(hi:PD X E i fi)(h:PZ X E μ n e f)
  (hd:(x == ("__debug__" :Str))=false:=by decide) (hcd:(x == ("__classdict__" :Str))=false:=by decide)
  (hs:swapsWith e (some (.Subscript (.Name x px) i tpos)) pos.line X.env=pure false:=by rfl) :
  mD X E μ r (.Assign [.Subscript (.Name x px) i tpos] e pos) (ke j fi f):=by
 intro pins s σ Ge B G H p W I R ho
 have hslot:∃ g l,p[j]?=some (some (.dct g l)):=by
  unfold ke at ho
  split at ho
  ·rename_i g l q; exact ⟨g,l,q⟩
  ·exact ho.elim
 obtain ⟨g,l,hr⟩:=hslot
 have eo:ke j fi f p=(f p).out fun d=>(fi p).out fun i=>qr j g l p d i:=by
  unfold ke
  rw [hr]
 rw [eo] at ho ⊢
 have top:∀ {G H:Hp},Rw X.K μ Ge B G H σ p W→∃ a M T,σ[j]?=some (some (.ref a))∧H a=some (.dT M)∧M.map (·.1)=g∧W j=a :: T∧AllW (Ow X.K G H n) l (M.map (·.2)) T:=fun {G H} R=>by
  obtain ⟨v,hv,o⟩:=R.sl j _ hr
  rw [hm] at o
  refine iN (o) fun a M T e1 e2 e4 e3 h1=> ?_
  subst e1
  exact (oJ a M T hv e2 e4 e3 h1)
 refine iN (top R) fun a M T0 h1 h2 h4 h3 h5=> ?_
 have nd:=I.dnd h2
 have hp:=BN (pos:=pos) (pos':=tpos) (by omega) (iq (pos:=px) hN hv hd hcd) (fL hi) (tu h) hs
 refine aT (hp pins s σ H { nx:=fun σ' H'=>∃ Z G' P,((f p).out fun d=>(fi p).out fun i=>qr j g l p d i)= .nx Z∧σ'=σ∧Rw X.K μ Ge B G' H' σ Z P∧Same G G',bk:=fun _ _=>False,ct:=fun _ _=>False,rt:=fun _ _=>False } I ⟨Ge,B,G,p,W,R,ho.res,fun d ed v G1 H1 S R1 sg sh o w=> ?_⟩) fun fl s1 Y=> ?_
 ·have k:=ho.res2 ed (Same.refl B)
  refine ⟨_,h1,oV W G1 H1,p,R1.vh,R1.ro,k.res.le R1.bh,fun di ei vi G3 H3 x3 ri=> ?_⟩
  have kk:=k.res2 ei (Same.refl B)
  have e0:((f p).out fun d=>(fi p).out fun i=>qr j g l p d i)=qr j g l p d di:=by rw [bV ed,bV ei]
  unfold qr at kk
  cases di with
  | tup kd=>
   dsimp only at kk
   cases q1:gz kd with
   | none=>rw [q1] at kk; exact kk.elim
   | some J=>
   rw [q1] at kk
   dsimp only at kk
   by_cases F:aX g.length=true
   ·have e0:=e0.trans (show qr j g l p d (.tup kd)= .nx (p.set j (some (mv g l J d))) by unfold qr; dsimp only; rw [q1]; exact if_pos F)
    rw [rep_tup] at ri
    refine bA (ri) fun b xs hS146 tb rk=> ?_; subst hS146
    have hx:=jm rk q1
    subst hx
    have V:=R1.grow x3
    refine iN (top V) fun a2 kvs2 T g1 g2 g4 g3 g5=> ?_
    rw [h1] at g1
    cases g1
    rw [x3.hh _ _ (sh _ _ h2)] at g2
    cases g2
    have hcS:∀ b∈S,∃ u,H1 b=some u∧¬ oK u:=fun b t=>let ⟨u,e,c⟩:=o.cell b t; ⟨u,e,c.nokey⟩
    have w3:=w.keep hcS (fun i b t=>R.apart w i b t) x3
    have fr:=V.freshOf w3 R
    have o3:=o.mono (R1.gg x3) fun b _ u e=>x3.hh b u e
    have hnd:=V.nd j
    rw [g3] at hnd
    obtain ⟨haT,hTn⟩:=List.nodup_cons.mp hnd
    have U:a∈W j:=by rw [g3]; exact List.mem_cons_self ..
    have inT:∀ b∈T,b∈W j:=fun b t=>by rw [g3]; exact cN t
    have neT:∀ b,b∈T→b≠a:=fun b t z=>haT (z ▸ t)
    have neS:∀ b,b∈S→b≠a:=fun b t z=>(fr b t).2 j (z ▸ U)
    have fin:∀ (T':List Addr) (d':D),Ow X.K (pD (qK W) G3) (br H3 a (.dT (fH M J v))) (n+1) d' (.ref a) (a :: T')→T'.Nodup→(∀ c∈T',c∈T∨c∈S)→mv g l J d=d'→∃ P,Rw X.K μ Ge B (pD (qK W) G3) (br H3 a (.dT (fH M J v))) σ (p.set j (some d')) P:=fun T' d' ow ndT hT' _=>by
     refine ⟨_,V.write U h1 (by rw [hm]; exact ow) (List.nodup_cons.mpr ⟨fun z=> ?_,ndT⟩) (fun c F=> ?_) fun i hi c F hci=> ?_⟩
     ·rcases hT' a z with y | y
      ·exact haT y
      ·exact neS a y rfl
     ·rcases List.mem_cons.mp F with z | z
      ·subst z; exact ⟨V.gf j _ U,V.ob j _ U⟩
      ·rcases hT' c z with y | y
       ·exact ⟨V.gf j _ (inT c y),V.ob j _ (inT c y)⟩
       ·exact (fr c y).1
     ·rcases List.mem_cons.mp F with z | z
      ·subst z; exact hi (V.dj i j _ hci U)
      ·rcases hT' c z with y | y
       ·exact hi (V.dj i j _ hci (inT c y))
       ·exact (fr c y).2 i hci
    have key:∃ P,Rw X.K μ Ge B (pD (qK W) G3) (br H3 a (.dT (fH M J v))) σ (p.set j (some (mv g l J d))) P:=by
     cases q2:ci g J with
     | some m=>
      rw [← h4] at q2
      obtain ⟨y1,y2⟩:=zw (v:=v) nd q2
      have hml:m < l.length:=by rw [g5.length,List.length_map]; have:=nF q2; rwa [List.length_map] at this
      refine oY (g5.at (cC hml)) fun w0 A L Q f1 f2 f3 f4=> ?_
      have hT:=hTn
      rw [f2] at hT
      have O:∀ c,c∈L∨c∈Q→c∈T:=fun c F=>by rw [f2]; rcases F with z | z; exact List.mem_append_left _ (List.mem_append_left _ z); exact List.mem_append_right _ z
      have big:=f4 (Ow X.K (pD (qK W) G3) (br H3 a (.dT (fH M J v))) n) (fun d v C hC z=>z.mono (.refl _) fun b t u e=>by rw [al (neT b (O b (hC b t)))]; exact e) d v S (o3.mono (.refl _) fun b t u e=>by rw [al (neS b t)]; exact e)
      have ed':mv g l J d= .dct g (l.set m d):=by unfold mv; rw [← h4,q2]
      rw [ed']
      refine fin (L ++ S ++ Q) _ (oJ a (fH M J v) (L ++ S ++ Q) rfl aw (by rw [y1,h4]) rfl (by rw [y2]; exact big)) (jn hT w.1 fun c F=> .inr ⟨fun z=>(fr c F).2 j (inT c (O c (.inl z))),fun z=>(fr c F).2 j (inT c (O c (.inr z)))⟩) (fun c F=> ?_) ed'
      rcases List.mem_append.mp F with z | z
      ·rcases List.mem_append.mp z with y | y
       ·exact .inl (O c (.inl y))
       ·exact .inr y
      ·exact .inl (O c (.inr z))
     | none=>
      have q3:=q2
      rw [← h4] at q3
      have ek:fH M J v=M ++ [(J,v)]:=zv v (uB q3)
      have ed':mv g l J d= .dct (g ++ [J]) (l ++ [d]):=by unfold mv; rw [q2]
      rw [ed']
      refine fin (T ++ S) _ (oJ a (fH M J v) (T ++ S) rfl aw (by rw [ek,List.map_append,h4]; rfl) rfl ?_) (List.nodup_append.mpr ⟨hTn,w.1,fun b t c F e=>by subst e; exact (fr b F).2 j (inT b t)⟩) (fun c F=>List.mem_append.mp F) ed'
      rw [ek,List.map_append]
      refine AllW.append (g5.mono fun d v A _ hA z=>z.mono (.refl _) fun b t u e=>by rw [al (neT b (hA b t))]; exact e) (.one (o3.mono (.refl _) fun b t u e=>by rw [al (neS b t)]; exact e))
    obtain ⟨P,R4⟩:=key
    have h9:M.length < sizeLine:=by
     have e9:M.length=g.length:=by rw [← h4,List.length_map]
     rw [e9]; exact ky F
    exact ⟨a,_,rfl,.inr (oJ M J b (x3.hh _ _ (sh _ _ h2)) rfl (x3.gh _ _ tb.h) h9 rfl),_,_,P,e0,rfl,R4,sg.trans (R1.gg x3)⟩
   ·rw [if_neg F] at kk; exact kk.elim
  | _=>exact kk.elim
 ·cases fl with
  | next=>
   obtain ⟨σ',H',I',Z,G',P,e1,e2,R',sg⟩:=Y
   subst e2
   exact ⟨Z,_,G',H',P,e1,I',R',sg⟩
  | brk=>obtain ⟨_,_,_,Y⟩:=Y; exact Y.elim
  | cont=>obtain ⟨_,_,_,Y⟩:=Y; exact Y.elim
  | ret u=>obtain ⟨_,_,_,_,_,Y⟩:=Y; exact Y.elim
end
section
variable{X:Cx}{E:XK}{μ:List Nat}{r n:Nat}
end
section
variable{X:Cx}{E:XK}{μ:List Nat}{r n:Nat}
end
theorem vQ:∀ (ρ:DS) (c:Addr),pN ρ≠ .exc c:=fun ρ c h=>by cases h
theorem l7 {f:DS→Res D}{g:DS→Res (List D)}(hf:∀ ρ c,f ρ≠ .exc c)(hg:∀ ρ c,g ρ≠ .exc c):∀ ρ c,pC f g ρ≠ .exc c:=fun ρ c h=>by
 unfold pC at h
 cases q:f ρ with
 | ok d=>
  rw [q] at h
  cases q2:g ρ with
  | ok d=>rw [q2] at h; cases h
  | exc e=>exact hg ρ e q2
  | bad=>rw [q2] at h; cases h
 | exc e=>exact hf ρ e q
 | bad=>rw [q] at h; cases h
theorem y4 {μ:List Nat}{f:DS→Res D}(hf:∀ ρ c,f ρ≠ .exc c):∀ ρ c,bZ μ f ρ≠ .exc c:=fun ρ c h=>hf _ c h
theorem qW {f:DS→Res (List D)}(hf:∀ ρ c,f ρ≠ .exc c):∀ ρ c,fK f ρ≠ .exc c:=fun ρ c h=>by
 unfold fK at h
 cases q:f ρ with
 | ok d=>rw [q,aD] at h; split at h <;> cases h
 | exc e=>exact hf ρ e q
 | bad=>rw [q] at h; cases h
section
variable{j jr n m:Nat}{g:DS→Res (List Nat)}{fi f:DS→Res D}{ρ:DS}{p:List Nat}{t d:D}{l rows:List D}{c:Int}
theorem yg (h:ρ[j]?=some (some d)):wB j ρ= .ok []:=by unfold wB; rw [h]
theorem vE {F:List D→Out}(hn:p.length=n)(ht:ρ[j]?=some (some t))(hp:gi p t=some (.lst rows)):oR ρ j n p F=F rows:=by
 unfold oR
 rw [if_pos hn,ht]
 dsimp only
 rw [hp]
theorem Av (hg:g ρ= .ok p)(hf:f ρ= .ok d)(hn:p.length=n)(ht:ρ[j]?=some (some t))(hp:gi p t=some (.lst rows))(hr:rows.length≤100000):qn j n g f ρ= .nx (ρ.set j (some (jc p t (.lst (rows ++ [d]))))):=by
 unfold qn
 rw [hg,bp,hf,bp,vE hn ht hp]
 unfold xY
 rw [ht]
 exact if_pos (decide_eq_true hr)
theorem Ax (hg:g ρ= .ok p)(hf:f ρ= .ok (.lst l))(hn:p.length=n)(ht:ρ[j]?=some (some t))(hp:gi p t=some (.lst rows))(hr:rows.length+l.length≤100000):qF j n g f ρ= .nx (ρ.set j (some (jc p t (.lst (rows ++ l))))):=by
 unfold qF
 rw [hg,bp,hf,bp,vE hn ht hp]
 unfold wS
 rw [ht]
 exact if_pos (decide_eq_true hr)
theorem vA {ks:List (List bH)}{k:List bH}{kd:List D}(ht:ρ[j]?=some (some (.dct ks l)))(hf:f ρ= .ok d)(hi:fi ρ= .ok (.tup kd))(hk:gz kd=some k)(hl:ks.length≤100000):ke j fi f ρ= .nx (ρ.set j (some (mv ks l k d))):=by
 unfold ke
 rw [ht]
 dsimp only
 rw [hf,bp,hi,bp]
 unfold qr
 dsimp only
 rw [hk]
 exact if_pos (decide_eq_true hl)
theorem Dm {ks:List (List bH)}{k:List bH}{kd:List D}(hg:g ρ= .ok p)(hn:p.length=n)(hi:fi ρ= .ok (.tup kd))(hk:gz kd=some k)(ht:ρ[j]?=some (some t))(hp:gi p t=some (.dct ks l))(hm:ci ks k=some m):Ae j n g fi ρ= .ok (p ++ [m]):=by
 unfold Ae
 rw [hg,aD,hi,aD,if_pos hn]
 unfold FC
 rw [ht]
 dsimp only
 rw [hp]
 dsimp only
 rw [hk]
 dsimp only
 rw [hm]
end
theorem Bh {α:Type}{P:List α→Prop}(h:∀ a,P [a]):∀ us:List α,us.length=1→P us
 | [a],_=>h a
theorem sP {α:Type}{P:List α→Prop}(h:∀ a b,P [a,b]):∀ us:List α,us.length=2→P us
 | [a,b],_=>h a b
theorem jw {α:Type}{P:List α→Prop}(h:∀ a b c,P [a,b,c]):∀ us:List α,us.length=3→P us
 | [a,b,c],_=>h a b c
theorem Eg {α:Type}{P:List α→Prop}(h:∀ a b c d,P [a,b,c,d]):∀ us:List α,us.length=4→P us
 | [a,b,c,d],_=>h a b c d
section
variable{K:W.Frag}{f:Addr}{x y:Str}{s:Stmt}{m:Str}{t c:Nat}
noncomputable def kf (x y:Str)(s:Stmt)(m:Str)(t c:Nat):Obj:=⟨.type "function",none,.func (W.fnOf x y (h_ s) (cK s) (ai s) .none .none .none (.str m t) none (.ref c) .none),#[]⟩
inductive FK (K:W.Frag)(f:Addr)(x y:Str)(s:Stmt):Prop
 | mk (m:Str) (t c:Nat) (l:K.lookup f=some (kf x y s m t c)) (d:W.codeIn K (.ref c) y=true)
inductive FT (K:W.Frag)(x:Str)(s:Stmt):Prop
 | mk (f:Addr) (a:W.nsIn K mainGlobals x=some (some (.ref f))) (g:FK K f x x s)
inductive FM (K:W.Frag)(C:Addr)(x y:Str)(s:Stmt):Prop
 | mk (f:Addr) (a:W.findIn K (.ref C) x=some (some (.ref f))) (g:FK K f x y s)
theorem qQ (l:K.lookup f=some (kf x y s m t c)):W.keepIn K (.ref f)=true:=by
 unfold W.keepIn
 dsimp only
 rw [l]
 rfl
theorem FK.kp:FK K f x y s→W.keepIn K (.ref f)=true
 | ⟨_,_,_,l,_⟩=>qQ l
theorem FK.fn:FK K f x y s→W.isFn K (.ref f)=true
 | ⟨_,_,_,l,_⟩=>by
  unfold W.isFn W.typeIn
  dsimp only
  rw [l]
  rfl
theorem FK.mk1:FK K f x y s→∃ fd,Fun K x y s f fd
 | ⟨_,_,_,l,d⟩=>⟨_,yz l d (qQ l)⟩
theorem k7 {h:Heap}{mg:Str→Option Value}{ps:List Str}(X:K.In h)(G:h.Ns mainGlobals mg)(g:FT K x s)
  (b:∀ (kV doc pm:Value) (an:Option Addr) (cdv ct:Value) (us:List Value),us.length=ps.length→bindArgs (W.fnOf x x (h_ s) (cK s) (ai s) .none kV doc pm an cdv ct) ⟨us,[]⟩=pure (ps.zip us)):Sta K mg x s ps:=by
 obtain ⟨f,a,g⟩:=g
 obtain ⟨fd,F⟩:=g.mk1
 exact ⟨f,fd,F,F.binds b,W.mg_of X G a,g.kp⟩
end
end L2
namespace L2
open PySem
noncomputable def RawD (h:Heap)(d:Addr)(es:Array DictEntry)(ep:Nat):Prop:=∃ o,h.get? d=some o∧o.ExactDict∧o.data= .dict es ep
theorem RawD.ty {s:Shared}{d:Addr}{es:Array DictEntry}{ep:Nat}(r:RawD s.heap d es ep):s.TypeIs (.ref d) "dict" :=let ⟨o,e,x,_⟩:=r; ⟨o,e,x.1⟩
section
variable{P:Program}{w:World}{A:Around}{E:Value→Shared→Prop}{s:Shared}{d it:Addr}{es:Array DictEntry}{ep i:Nat}
theorem zx {Q:Value→Shared→Prop}(hd:(d == sysModules)=false)(r:RawD s.heap d es ep)
  (q:Q (.ref s.heap.objs.size) { s with heap:=s.heap.push ⟨.type "dict_keyiterator",none,.fields #[.ref d,.int 0 0,.int es.size 0,.int ep 0],#[]⟩ }):wpAny (model P w) A (pyIter (.ref d)) Q E s:=by
 have ty:=r.ty
 refine cy (r) fun o e x dt=> ?_
 refine wpAny_pyIter_slot ty PySem.F.slot_dict_iter (wpAny_call_entry PySem.F.slot_dict_iter ty PySem.F.entry_dict_iter ?_ (PySem.F.args_dict_iter_1 _))
 unfold Builtin.«dict.__iter__» Builtin.Dict.dictSlotNone
 refine wpAny_bind (wpAny_bind (wpAny_notOrdered_dict ty (by show wpAny _ _ (pure (Value.ref d)) _ _ s; refine wpAny_pure ?_; show wpAny _ _ (Builtin.Dict.showsAll d >>= _) _ _ s; unfold Builtin.Dict.showsAll; rw [if_neg (by rw [hd]; exact Bool.false_ne_true)]; refine wpAny_bind (wpAny_pure ?_); refine wpAny_bind (wpAny_dictEntries e dt ?_); refine wpAny_bind (wpAny_dictEpoch e dt ?_); refine wpAny_bind (wpAny_newObj_type (wpAny_pure ⟨_,rfl,"dict_keyiterator",_,⟨_,Heap.get?_push_size _ rfl,rfl⟩,PySem.F.slot_dict_keyiterator_next.lookup,?_⟩)); simpa [rawInt] using q)))
theorem zy {Q:Option Value→Shared→Prop}(hit:s.heap.IsKeyIter it d i es.size ep)(r:RawD s.heap d es ep)(hi:i < es.size)
  (q:∀ h',h'.IsKeyIter it d (i+1) es.size ep→Heap.SameBut it s.heap h'→Q (some es[i].key) { s with heap:=h' }):wpAny (model P w) A (pyNext (.ref it)) Q E s:=by
 have it':=hit
 refine cy (it') fun io e1 c1 d1=> ?_
 refine cy (r) fun o e x dt=> ?_
 unfold pyNext
 have own:Builtin.Dict_items.ownsTuple "dict_keyiterator" =false:=by decide
 refine wpAny_bind (wpAny_attempt (wpAny_callSpecial?_slot (name:=Str.ofString "__next__") hit.typeIs PySem.F.slot_dict_keyiterator_next (wpAny_call_entry PySem.F.slot_dict_keyiterator_next hit.typeIs PySem.F.entry_dict_keyiterator_next ?_ (PySem.F.args_dict_keyiterator_next_1 _))))
 refine wpAny_bind (wpAny_pure (wpAny_bind (wpAny_bind ?_)))
 first | refine wpAny_bind (wpAny_typeNameOfWhole_keyiter hit.typeIs (wpAny_pure (wpAny_bind (wpAny_fieldsOf e1 d1 ?_)))) | refine wpAny_bind (wpAny_typeNameOf_keyiter hit.typeIs (wpAny_pure (wpAny_bind (wpAny_fieldsOf e1 d1 ?_))))
 simp only [own,Bool.false_eq_true,if_false]; show wpAny _ _ (if (Value.ref d == Value.none)=true then _ else _) _ _ s
 rw [if_neg (show ¬ ((Value.ref d == Value.none)=true) from Bool.false_ne_true)]; refine wpAny_bind (wpAny_pure (wpAny_bind (wpAny_dictEntries e dt ?_))); rw [if_neg (by simp)]
 refine wpAny_bind (wpAny_pure (wpAny_bind (wpAny_dictEpoch e dt ?_))); rw [if_neg (by simp)]; refine wpAny_pure ?_
 simp only [show ¬ ((i:Int) < 0) from by omega,if_false,Int.toNat_natCast,Array.getElem?_eq_getElem hi]; refine wpAny_bind ?_
 first | refine wpAny_bind (wpAny_typeNameOfWhole_keyiter hit.typeIs (wpAny_pure (wpAny_bind (wpAny_isOneOf_keyiter hit.typeIs ?_)))) | refine wpAny_bind (wpAny_typeNameOf_keyiter hit.typeIs (wpAny_pure (wpAny_bind (wpAny_isOneOf_keyiter hit.typeIs ?_))))
 show wpAny _ _ (setField (.ref it) 1 (rawInt ((i:Int)+1)) >>= _) _ _ s; refine wpAny_bind (wpAny_setField e1 d1 (by simp) ?_)
 have nx:(s.heap.update it (Obj.mapFields (·.setIfInBounds 1 (rawInt ((i:Int)+1))))).IsKeyIter it d (i+1) es.size ep:=(iI _ (Heap.get?_update_self _ e1 (Obj.isFreed_of_fields (Obj.data_mapFields d1 _))) ((Obj.cls_mapFields ..).trans c1) (by rw [Obj.data_mapFields d1]; simp [rawInt]))
 refine wpAny_bind (wpAny_holding (wpAny_bind (wpAny_isOneOf_keyiter (s:={ s with heap:=s.heap.update it (Obj.mapFields (·.setIfInBounds 1 (rawInt ((i:Int)+1)))) }) nx.typeIs ?_)))
 show wpAny _ _ (pure es[i].key) _ _ _; exact wpAny_pure (wpAny_pure ⟨_,rfl,wpAny_pure (q _ nx (Heap.SameBut.update ..))⟩)
theorem BP {Q:Option Value→Shared→Prop}(hh:A.handled=none)(hit:s.heap.IsKeyIter it d i es.size ep)(r:RawD s.heap d es ep)(hi:es.size≤i)
  (q:∀ h',Heap.ExtBut it s.heap h'→Q none { s with heap:=h' }):wpAny (model P w) A (pyNext (.ref it)) Q E s:=by
 have it':=hit
 refine cy (it') fun io e1 c1 d1=> ?_
 refine cy (r) fun o e x dt=> ?_
 unfold pyNext
 have own:Builtin.Dict_items.ownsTuple "dict_keyiterator" =false:=by decide
 refine wpAny_bind (wpAny_attempt (wpAny_callSpecial?_slot (name:=Str.ofString "__next__") hit.typeIs PySem.F.slot_dict_keyiterator_next (wpAny_call_entry PySem.F.slot_dict_keyiterator_next hit.typeIs PySem.F.entry_dict_keyiterator_next ?_ (PySem.F.args_dict_keyiterator_next_1 _))))
 refine wpAny_bind (wpAny_pure (wpAny_bind (wpAny_bind ?_)))
 first | refine wpAny_bind (wpAny_typeNameOfWhole_keyiter hit.typeIs (wpAny_pure (wpAny_bind (wpAny_fieldsOf e1 d1 ?_)))) | refine wpAny_bind (wpAny_typeNameOf_keyiter hit.typeIs (wpAny_pure (wpAny_bind (wpAny_fieldsOf e1 d1 ?_))))
 simp only [own,Bool.false_eq_true,if_false]; show wpAny _ _ (if (Value.ref d == Value.none)=true then _ else _) _ _ s
 rw [if_neg (show ¬ ((Value.ref d == Value.none)=true) from Bool.false_ne_true)]; refine wpAny_bind (wpAny_pure (wpAny_bind (wpAny_dictEntries e dt ?_))); rw [if_neg (by simp)]
 refine wpAny_bind (wpAny_pure (wpAny_bind (wpAny_dictEpoch e dt ?_))); rw [if_neg (by simp)]; refine wpAny_pure ?_
 simp only [show ¬ ((i:Int) < 0) from by omega,if_false,Int.toNat_natCast,Array.getElem?_eq_none hi]; refine wpAny_bind ?_
 first | refine wpAny_bind (wpAny_typeNameOfWhole_keyiter hit.typeIs (wpAny_pure ?_)); show wpAny _ _ (setField (.ref it) 0 .none >>= _) _ _ s | refine wpAny_bind (wpAny_typeNameOf_keyiter hit.typeIs (wpAny_pure ?_)); show wpAny _ _ (setField (.ref it) 0 .none >>= _) _ _ s
 refine wpAny_bind (wpAny_setField e1 d1 (by simp) ?_); show wpAny _ _ (newExc (.type "StopIteration") [] >>= _) _ _ _
 refine wpAny_bind ?_; simp only [newExc,newTuple]; refine wpAny_bind (wpAny_newObj_type ?_ (by size_fits)); refine wpAny_bind (m:=firstArgMember _ _) (wpAny_of_eq (a:=Value.none) (by first | rfl | (simp only [firstArgMember]; rfl)) ?_)
 refine wpAny_newObj_type ?_ (by size_fits); simp only [raiseNew]; refine wpAny_bind (wpAny_handled ?_); rw [show A.in1.handled=none from hh]
 refine wpAny_bind (wpAny_pure (wpAny_throw ?_)); refine wpAny_bind (wpAny_isInstance (T:= "StopIteration") (b:=true) ⟨_,Heap.get?_push_size _ rfl,rfl⟩ isSubtype_stop ?_); exact wpAny_pure (q _ (((Heap.SameBut.update ..).extBut.push _).push _))
end
section
variable{P:Program}{w:World}{A:Around}{E:Value→Shared→Prop}{s:Shared}{d:Addr}{es:Array DictEntry}{ep:Nat}
theorem BQ {Q:Value→Shared→Prop}(hd:(d == sysModules)=false)(r:RawD s.heap d es ep)(hf:(es.size:Int) < 2 ^ 63)(q:∀ t t',Q (.int es.size t) { s with toks:=t' }):wpAny (model P w) A (call (.builtin "len") [.ref d]) Q E s:=by
 have ty:=r.ty
 refine cy (r) fun o e x dt=> ?_
 refine Calls.call_function_entry kind_len plain_len entry_len (args_len1 _) ?_; unfold Builtin.«len»; refine wpAny_bind (m:=oneArg "len" _) (wpAny_pure ?_)
 refine wpAny_bind (m:=callSpecial? (.ref d) (Str.ofString "__len__")) (wpAny_callSpecial?_slot (name:=Str.ofString "__len__") ty PySem.F.slot_dict_len (wpAny_call_entry PySem.F.slot_dict_len ty PySem.F.entry_dict_len ?_ (PySem.F.args_dict_len_1 _)))
 unfold Builtin.«dict.__len__»; refine wpAny_bind ?_; unfold Builtin.Dict.dictSlotNone; refine wpAny_bind (wpAny_notOrdered_dict ty ?_); show wpAny _ _ (pure (Value.ref d)) _ _ s; refine wpAny_pure ?_
 show wpAny _ _ (dictSize d >>= _) _ _ s; unfold dictSize; refine wpAny_bind (wpAny_bind (wpAny_dictEntries e dt (wpAny_pure ?_))); show wpAny _ _ (Builtin.Dict.pendingCount d >>= _) _ _ s
 refine wpAny_bind (wpAny_pendingCount_other hd ?_); refine wpAny_ret_mkInt ?_; rw [show ((es.size:Int)+((0:Nat):Int))=(es.size:Int) from by simp]; refine wpAny_bind (wpAny_holding (wpAny_pure ?_)); refine wpAny_bind (wpAny_letGo ?_)
 show wpAny _ _ (if ((es.size:Nat):Int) < 0 then _ else _) _ _ _; rw [if_neg (by omega)]
 show wpAny _ _ (if ((es.size:Nat):Int) ≥ 2 ^ 63 then _ else _) _ _ _; rw [if_neg (by omega)]; exact wpAny_bind (wpAny_mkInt (wpAny_pure ⟨_,rfl,q _ _⟩))
end
end L2
namespace L2
open PySem PySem.Spec PyProof.Rows
noncomputable def Ig (a:Addr)(o:Obj)(kvs:List (List bH×V)):It:=
 ⟨fun i H=>H a=some (.frz o (.dT kvs))∧i < kvs.length,fun i H x H'=>H'=H∧∃ b k,(kvs.map (·.1))[i]?=some k∧x= .ref b∧H b=some (.tup (k.map kV)),fun i H=>H a=some (.frz o (.dT kvs))∧kvs.length≤i⟩
theorem Paired.at2 {α β:Type}{R:α→β→Prop}:∀ {l:List α} {m:List β},Paired R l m→l.length=m.length∧∀ (i:Nat) (h1:i < l.length) (h2:i < m.length),R l[i] m[i]
 | _,_,.nil=>⟨rfl,fun i h=>by cases h⟩
 | _,_,.cons r t=>by
  obtain ⟨a,b⟩:=Paired.at2 t
  refine ⟨by rw [List.length_cons,List.length_cons,a],fun i h1 h2=> ?_⟩
  cases i with
  | zero=>exact r
  | succ i=>exact b i (by simpa using h1) (by simpa using h2)
theorem qH {X:Cx}{pins:List (Addr×Obj)}{σ:St}{H:Hp}{s:Shared}{a:Addr}{o:Obj}{kvs:List (List bH×V)}(I:Inv X pins σ H s)(h:H a=some (.frz o (.dT kvs))) :
  ∃ es ep,o.data= .dict es ep∧RawD s.heap a es ep∧es.size=kvs.length∧(a == sysModules)=false∧kvs.length≤sizeLine∧∀ (i:Nat) (h1:i < kvs.length) (h2:i < es.size),∃ b,es[i].key= .ref b∧H b=some (.tup (kvs[i].1.map kV)):=by
 obtain ⟨ho,z,hd,xs,pr,o',es,ep,ho',ex,dt,he,nd⟩:=(show ObjOk X.prog X.w H s.heap a (.frz o (.dT kvs)) from I.hok a _ h)
 rw [ho] at ho'
 cases ho'
 obtain ⟨hl,at'⟩:=Paired.at2 pr
 have hsz:es.size=kvs.length:=by rw [← Array.length_toList,he,List.length_map,hl]
 refine (F_ es ep dt (iI o ho ex dt) hsz hd z (fun i h1 h2=> ?_))
 have h3:i < xs.length:=by omega
 have e1:es[i]=entryOfKey (tupleKind (b7 X.prog X.w)) xs[i]:=by
  have:es.toList[i]?=some (entryOfKey (tupleKind (b7 X.prog X.w)) xs[i]):=by rw [he,List.getElem?_map,cC h3]; rfl
  rw [Array.getElem?_toList,Array.getElem?_eq_getElem h2] at this
  exact Option.some.inj this
 exact ⟨xs[i].2.1,by rw [e1]; rfl,(at' i h1 h3).2.1⟩
theorem xJ {P:Program}{w:World}{K:W.Frag}{tg:Expr}(a it:Addr)(o:Obj)(kvs:List (List bH×V)):Turn P w K tg (Ig a o kvs) [it] it (fun i h=>∃ es ep,o.data= .dict es ep∧h.IsKeyIter it a i es.size ep) where
 mem:=by simp
 obj:=fun i h ⟨es,ep,_,st⟩ b q=>by
  have e:b=it:=by simpa using q
  subst e
  refine cy (st) fun o e c d=> ?_
  exact ⟨o,e,fun v z=>by rw [d] at z; cases z⟩
 keep:=fun i h h' ⟨es,ep,e,o,e1,c,d⟩ k=>⟨es,ep,e,o,k it (by simp) o e1,c,d⟩
 item:=by
  rintro X hP hw hK hc i pins s σ H E I hf ⟨es,ep,ed,st⟩ ⟨hg,hi⟩
  subst hP hw hK
  refine Fj (qH I hg) fun es' ep' dt rw' hsz hd hz at'=> ?_
  rw [ed] at dt
  cases dt
  refine oW (hf it (by simp)) fun f0 f1 f2 f3 f4 f5=> ?_
  have hi':i < es.size:=by omega
  obtain ⟨b,q,hH⟩:=at' i hi hi'
  refine zy st rw' hi' fun h' st' sb=> ?_
  have I1:Inv X pins σ H { s with heap:=h' }:=I.turned (t':=s.toks) (fun b o q e=>(sb.2 b q).trans e) f0 f1 f3 f4 f5
  refine cy (id st') fun o e c d=> ?_
  rw [q]
  exact ⟨_,rfl,vK (s:={ s with heap:=h' }) e c d (by decide) (xh (.ref b) H I1 rfl (DP rfl b (kvs[i].1) (by rw [List.getElem?_map,cC hi]; rfl) rfl hH) (mi es ep ed st') (fun b q=>(hf b q).1))⟩
 done:=by
  rintro X hP hw hK hc i pins s σ H E I hf ⟨es,ep,ed,st⟩ ⟨hg,hi⟩
  subst hP hw hK
  refine Fj (qH I hg) fun es' ep' dt rw' hsz hd hz at'=> ?_
  rw [ed] at dt
  cases dt
  refine oW (hf it (by simp)) fun f0 f1 f2 f3 f4 f5=> ?_
  exact BP (I.ok.hd hc) st rw' (by omega) fun h' eb=>⟨rfl,I.turned (t':=s.toks) (fun b o q e=>eb b o q e) f0 f1 f3 f4 f5⟩
 self:=fun _ _ _ _ _ ⟨es,ep,_,st⟩ h=>wpAny_pyIter_keyiter st h
noncomputable def kD:bH→D
 | .inl i=> .int i
 | .inr x=> .str x
noncomputable def Bg (k:List bH):D:= .tup (k.map kD)
theorem tG {K:W.Frag}{G:Hp}:∀ (k:List bH),RepL K G (k.map kD) (k.map kV)
 | []=> .nil
 | k :: r=> .cons (by cases k with | inl i=>exact rep_int.mpr rfl | inr x=>exact rep_str.mpr rfl) (tG r)
theorem zL {K:W.Frag}{G:Hp}{a:Addr}{o:Obj}{kvs:List (List bH×V)}(h:G a=some (.frz o (.dT kvs))):z_ K (Ig a o kvs) ((kvs.map (·.1)).map Bg) G:=by
 intro G2 H2 g1 g2 i
 refine ⟨fun d hd=> ?_,fun hl=>⟨g2 _ _ (g1 _ _ h),by simpa using hl⟩⟩
 rw [List.getElem?_map] at hd
 cases q:(kvs.map (·.1))[i]? with
 | none=>rw [q] at hd; cases hd
 | some k=>
  rw [q] at hd
  cases hd
  have hi:i < kvs.length:=by have:=(d7 q).1; simpa using this
  refine ⟨⟨g2 _ _ (g1 _ _ h),hi⟩,fun x H' hZ162=> ?_⟩
  refine rJ (hZ162) fun e b k' hk hx hH=> ?_
  subst e hx
  rw [q] at hk
  cases hk
  have gg:Same G2 (br G2 b (.tup (k.map kV))):=fun c u e=>by
   by_cases hc:c=b
   ·subst hc
    have:=g2 _ _ e
    rw [hH] at this
    cases this
    exact aw
   ·rw [al hc]; exact e
  refine ⟨br G2 b (.tup (k.map kV)),⟨.refl _,gg,fun c u e=> ?_,fun c u e=> ?_⟩,rep_tup.mpr (dJ b _ rfl (.of aw) (tG k))⟩
  ·by_cases hc:c=b
   ·subst hc; rw [aw] at e; rw [← e]; exact hH
   ·rw [al hc] at e; exact g2 c u e
  ·by_cases hc:c=b
   ·subst hc; rw [aw] at e; cases e; exact .inr (.inr ⟨k,rfl⟩)
   ·rw [al hc] at e; exact .inl e
noncomputable def sN:D→Res (List D)
 | .fdc ks _=> .ok (ks.map Bg)
 | _=> .bad
section
variable{X:Cx}{E:XK}{μ:List Nat}{n:Nat}{tg:Expr}
theorem zl {e:Expr}{f:DS→Res D}(h:PD X E e f):PI X tg e (tDI X.K E (fun ρ=>(f ρ).bind sN)):=by
 intro pins s σ H R I hZ25
 obtain ⟨G,ρ,hs,hro,ho,k⟩:=hZ25
 refine aT (fL h pins s σ H (fun v H1=>∃ a o L G1,v= .ref a∧Ext G H G1 H1∧G1 a=some (.frz o (.dT L))∧((f ρ).bind sN)= .ok ((L.map (·.1)).map Bg)) I ⟨G,ρ,hs,hro,ho.fst,fun d e v G1 H1 x1 p1=> ?_⟩) fun v s1 hZ163=> ?_
 ·have kk:=ho.snd e x1.hh
  cases d with
  | fdc ks l=>
   rw [rep_fdc] at p1
   refine jA (p1) fun a o L hS147 ga hk rl=> ?_; subst hS147
   exact (oH a o L G1 rfl x1 ga (by rw [e,aD,← hk]; rfl))
  | _=>exact kk.elim
 ·obtain ⟨x,H1,I1,r1,a,o,L,G1,ex,x1,ga,ek⟩:=hZ163
  subst ex
  cases r1
  refine Fj (qH I1 (x1.gh _ _ ga)) fun es ep dt rw' hsz hd hz at'=> ?_
  refine zx hd rw' ?_
  exact ⟨s1.heap.objs.size,[s1.heap.objs.size],_,_,H1,rfl,I1.kept (t':=s1.toks) fun b o e=>Heap.get?_push_of_some _ e,xJ a _ o L,⟨es,ep,dt,_,Heap.get?_push_size _ rfl,rfl,rfl⟩,fun b hb=>by
   have e:b=s1.heap.objs.size:=by simpa using hb
   subst e
   exact I1.fpOk (Nat.le_refl _) (I1.hok.fresh (Nat.le_refl _)),k _ ek _ G1 H1 x1 (zL ga)⟩
noncomputable def yR:List D→Res D
 | [.dct ks _]=> .ok (.int ks.length)
 | [.fdc ks _]=> .ok (.int ks.length)
 | _=> .bad
theorem wC:dI X (.builtin "len") (fun xs H Q=>∃ a kvs,xs=[V.ref a]∧Rd H a (.dT kvs)∧Q (.int kvs.length) H):=by
 intro pins s σ H xs us Q I r h
 refine bA (h) fun a kvs hS148 ha q=> ?_; subst hS148
 obtain ⟨u,rfl,ru⟩:=je r
 cases ru
 refine Fg (zA I.hok ha) fun z hd xs pr o es ep ho ex dt he nd=> ?_
 obtain ⟨hl,_⟩:=Paired.at2 pr
 have hsz:es.size=kvs.length:=by rw [← Array.length_toList,he,List.length_map,hl]
 have hz:=sizeLine_eq
 exact BQ hd (iI o ho ex dt) (by omega) fun t t'=>⟨.int kvs.length,H,I.tok t',⟨t,by rw [hsz]⟩,q⟩
theorem Ak {K:W.Frag}:xT K E (fun xs H Q=>∃ a kvs,xs=[V.ref a]∧Rd H a (.dT kvs)∧Q (.int kvs.length) H) yR:=by
 intro G H vs ds Q hs rl ok k
 unfold yR at ok k
 split at ok
 ·refine bA (rl.inv) fun v r hS149 rx r0=> ?_; subst hS149
  rw [r0.inv0]
  rw [rep_dct] at rx
  refine oC (rx) fun a kvs hS150 rd hk _=> ?_; subst hS150
  subst hk
  exact (dJ a kvs rfl (hs.rd rd) (by have:=k _ _ G H rfl (.refl hs) (rep_int.mpr rfl); simpa using this))
 ·refine bA (rl.inv) fun v r hS151 rx r0=> ?_; subst hS151
  rw [r0.inv0]
  rw [rep_fdc] at rx
  refine jA (rx) fun a o kvs hS152 rd hk _=> ?_; subst hS152
  subst hk
  exact (dJ a kvs rfl (hs.rd (.inr ⟨o,rd⟩)) (by have:=k _ _ G H rfl (.refl hs) (rep_int.mpr rfl); simpa using this))
 ·exact ok.elim
theorem Bs {e:Expr}{p pos:Pos}{f:DS→Res D}(hm:X.mg "len" =none)(h:PD X E e f)(hg:Gl X "len" :=by rfl)(he:starEach [e] X.env=(false,eval e X.env) :: starEach [] X.env:=by rfl):PD X E (.Call (.Name "len" p) [e] [] pos) (fun ρ=>(f ρ).bind fun a=>yR [a]):=
 qX ▸ ee (X:=X) (E:=E) (p:=p) (pos:=pos) wC Ak hg hm PySem.boot_len (aa h af he) (by decide) (by decide) he rfl
noncomputable def AW:D→Res D
 | .dct ks l=> .ok (.fdc ks l)
 | _=> .bad
theorem Inv.frz {pins:List (Addr×Obj)}{σ:St}{H:Hp}{s:Shared}{a:Addr}{o:Obj}{kvs:List (List bH×V)}(I:Inv X pins σ H s)(h:H a=some (.dT kvs))(ho:s.heap.get? a=some o):Inv X pins σ (br H a (.frz o (.dT kvs))) s:=by
 have ne:∀ {b:Addr} {u:HO},H b=some u→u≠ .dT kvs→b≠a:=fun e hu z=>by subst z; rw [h] at e; cases e; exact hu rfl
 refine I.un (t':=s.toks) ⟨fun b u e _ _ _=>e,fun b u e _ _ _=>⟨u.slots,e⟩,fun b u _ n _=> ?_,fun b u e _=>⟨u,e⟩,fun b xs e=> ?_,fun b u v e=> ?_,fun b ps e=> ?_⟩ fun b u e=> ?_
 ·rw [al (fun z=>by subst z; rw [h] at n; cases n)]; exact n
 ·rw [al (ne e (fun z=>by cases z))]; exact e
 ·rw [al (ne e (fun z=>by cases z))]; exact e
 ·exact ⟨#[],by rw [al (ne e (fun z=>by cases z)),e]; simp⟩
 ·have st:∀ {c:Addr} {v:HO},ObjOk X.prog X.w H s.heap c v→ObjOk X.prog X.w (br H a (.frz o (.dT kvs))) s.heap c v:=fun x=>x.stay (fun _ _ _ e=>e) (fun b e=>by rw [al (ne e (fun z=>by cases z))]; exact e) fun b xs e=>by rw [al (ne e (fun z=>by cases z))]; exact e
  by_cases hb:b=a
  ·subst hb
   rw [aw] at e
   cases e
   exact ⟨ho,st (I.hok _ _ h)⟩
  ·rw [al hb] at e
   exact st (I.hok b u e)
theorem PN.pdF {e:Expr}{f:DS→Res D}(h:PN X E (n+1) e f):PD X E e (fun ρ=>(f ρ).bind AW):=by
 intro pins s σ G H ρ I hs hr ho
 refine aT (h pins s σ G H ρ I hs hr ho.fst) fun u s' hZ164=> ?_
 obtain ⟨d,e,v,G',H',S,I',rv,x,o,w⟩:=hZ164
 have kk:=ho.snd e x.hh
 cases d with
 | dct ks l=>
  refine iN (o) fun a L T hS153 ha hk hS154 os=> ?_; subst hS153; subst hS154
  refine vc ((show ObjOk X.prog X.w H' s'.heap a (.dT L) from I'.hok a _ ha)) fun _ _ _ _ ob _ _ hob _=> ?_
  obtain ⟨haT,ndT⟩:=List.nodup_cons.mp w.1
  have wa:=w.2 a (List.mem_cons_self ..)
  have wT:∀ b∈T,H b=none∧G' b=none:=fun b hb=>w.2 b (cN hb)
  have dec:∀ b,Decidable (b∈T):=fun b=>Classical.propDecidable _
  have g3:∀ b,(fun b=>if b=a then some (HO.frz ob (.dT L)) else if b∈T then H' b else G' b:Hp) b=if b=a then some (HO.frz ob (.dT L)) else if b∈T then H' b else G' b:=fun _=>rfl
  generalize hG3:(fun b=>if b=a then some (HO.frz ob (.dT L)) else if b∈T then H' b else G' b:Hp)=G3 at g3
  have ga:G3 a=some (.frz ob (.dT L)):=by rw [g3,if_pos rfl]
  have gT:∀ b∈T,G3 b=H' b:=fun b hb=>by rw [g3,if_neg (fun (z:b=a)=>haT (z ▸ hb)),if_pos hb]
  have gO:∀ b,b≠a→b∉T→G3 b=G' b:=fun b h1 h2=>by rw [g3,if_neg h1,if_neg h2]
  have sg:Same G' G3:=fun b u e=>by
   rw [gO b (fun z=>by subst z; rw [wa.2] at e; cases e) (fun z=>by rw [(wT b z).2] at e; cases e)]; exact e
  refine ⟨.fdc ks l,au e rfl,.ref a,G3,br H' a (.frz ob (.dT L)),I'.frz ha hob,rv,⟨fun b u e=> ?_,x.gg.trans sg,fun b u e=> ?_,fun b u e=> ?_⟩,rep_fdc.mpr (jT a ob L rfl ga hk (os.rep fun d v A hA ow=>ow.rep sg fun b hb u e=>by rw [gT b (hA b hb)]; exact e))⟩
  ·rw [al (fun z=>by subst z; rw [wa.1] at e; cases e)]; exact x.hh b u e
  ·by_cases h1:b=a
   ·subst h1; rw [ga] at e; rw [aw]; exact e
   ·rw [al h1]
    by_cases h2:b∈T
    ·rw [gT b h2] at e; exact e
    ·rw [gO b h1 h2] at e; exact x.gh b u e
  ·by_cases h1:b=a
   ·subst h1; exact .inr (.inl wa.1)
   ·by_cases h2:b∈T
    ·exact .inr (.inl (wT b h2).1)
    ·rw [gO b h1 h2] at e; exact x.nw b u e
 | _=>exact kk.elim
noncomputable def zN (ns:List Int):List Int:=ns.mergeSort (fun a b=>decide (a≤b))
theorem lO (ns:List Int):(zN ns).Perm ns:=List.mergeSort_perm ..
theorem tV (ns:List Int):(zN ns).Pairwise (· ≤ ·):=by
 have h:=List.pairwise_mergeSort (le:=fun a b:Int=>decide (a≤b)) (fun a b c h1 h2=>by simp at *; omega) (fun a b=>by simp; omega) ns
 exact h.imp fun {a b} h=>by simpa using h
theorem j6:∀ {a b:List Int},a.Perm b→a.Pairwise (· ≤ ·)→b.Pairwise (· ≤ ·)→a=b
 | [],b,p,_,_=>(List.nil_perm.mp p).symm
 | x :: a,[],p,_,_=>absurd p.length_eq (by simp)
 | x :: a,y :: b,p,h1,h2=>by
  obtain ⟨i1,i2⟩:=List.pairwise_cons.mp h1
  obtain ⟨j1,j2⟩:=List.pairwise_cons.mp h2
  have e:x=y:=by
   have hx:=p.mem_iff.mp (List.mem_cons_self (a:=x) (l:=a))
   have hy:=p.mem_iff.mpr (List.mem_cons_self (a:=y) (l:=b))
   rcases List.mem_cons.mp hx with z | z
   ·exact z
   ·rcases List.mem_cons.mp hy with z' | z'
    ·exact z'.symm
    ·have:=j1 x z; have:=i1 y z'; omega
  subst e
  rw [j6 (List.perm_cons x |>.mp p) i2 j2]
theorem t7:∀ {us:List Value} {ns:List Int},IntsAre us ns→Vals (ns.map V.int) us
 | _,_,.nil=> .nil
 | _,_,.cons n t h=> .cons ⟨t,rfl⟩ (t7 h)
noncomputable def lM:List D→Res D
 | [.lst l]=>(match allInts l with | some ns=>if ns.length < 64 then .ok (.lst ((zN ns).map D.int)) else .bad | none=> .bad)
 | _=> .bad
theorem ui:dI X (.builtin "sorted") (fun xs H Q=>∃ p ns,xs=[.ref p]∧gu X.K H p (ns.map V.int)∧ns.length < 64∧∀ l,H l=none→Q (.ref l) (br H l (.lst ((zN ns).map V.int)))):=by
 intro pins s σ H xs us Q I r h
 refine oC (h) fun p ns hS155 sq h64 q=> ?_; subst hS155
 obtain ⟨u,rfl,ru⟩:=je r
 cases (show u= .ref p from ru)
 refine cy (I.list sq) fun its rv pl hz=> ?_
 have hil:=rv.length
 rw [List.length_map] at hil
 refine sorted_ints pl.isList (fu rv) (by omega) fun out ns' a1 a2 a3=> ?_
 have e:ns'=zN ns:=j6 (a2.trans (lO ns).symm) a3 (tV ns)
 subst e
 have hl:=(lO ns).length_eq
 have key:=jS (vs:=its) (out:=out.toList) I (t7 a1) (by rw [List.length_map,hl]; have:=sizeLine_eq; omega) q
 rw [Array.toArray_toList] at key
 exact key
theorem zo {e:Expr}{p pos:Pos}{f:DS→Res D}(hm:X.mg "sorted" =none)(h:PD X E e f)(hg:Gl X "sorted" :=by rfl)(he:starEach [e] X.env=(false,eval e X.env) :: starEach [] X.env:=by rfl):PD X E (.Call (.Name "sorted" p) [e] [] pos) (fun ρ=>(f ρ).bind fun a=>lM [a]):=by
 refine qX ▸ ee (X:=X) (E:=E) (p:=p) (pos:=pos) ui ?_ hg hm boot_sorted (aa h af he) (by decide) (by decide) he rfl
 intro G H vs ds Q hs rl ok k
 unfold lM at ok k
 split at ok
 ·rename_i l
  refine bA (rl.inv) fun v r hS156 rx r0=> ?_; subst hS156
  rw [r0.inv0]
  dsimp only at ok k
  cases q:allInts l with
  | none=>rw [q] at ok; exact ok.elim
  | some ns=>
   rw [q] at ok k
   dsimp only at ok k
   by_cases hc:ns.length < 64
   ·rw [if_pos hc] at k
    have el:=eX q
    subst el
    rw [rep_lst] at rx
    obtain ⟨a,xs,rfl,sq,rx⟩:=rx
    have ex:=rx.ints
    subst ex
    exact ⟨a,ns,rfl,hs.seq sq.sq,hc,fun l hl=>k _ _ _ _ rfl (.new hs hl _) (rep_lst.mpr ⟨l,_,rfl,.of aw,.of_ints _⟩)⟩
   ·rw [if_neg hc] at ok; exact ok.elim
 ·exact ok.elim
noncomputable def tf (d e:D):Res D:=match d,e with
 | .bl a,.bl b=> .ok (.bl (a != b))
 | _,_=> .bad
theorem sf:DOp X E (compareOp .IsNot) tf:=by
 intro pins s σ G H x y dx dy v u I hs rx ry rv ru ok
 unfold tf at ok ⊢
 cases dx with
 | bl a=>
  cases dy with
  | bl b=>
   rw [rep_bl] at rx ry
   subst rx ry
   cases rv
   cases ru
   exact isnot_bool ⟨_,rfl,.bl (a != b),G,H,I,rfl,.refl hs,rep_bl.mpr rfl⟩
  | _=>exact ok.elim
 | _=>cases dy <;> exact ok.elim
end
noncomputable abbrev sD (f:DS→Res D):DS→Res (List D):=fun ρ=>(f ρ).bind sN
noncomputable abbrev HC (f:DS→Res D):DS→Res D:=fun ρ=>(f ρ).bind AW
noncomputable def wW (i j:Nat):DS→Out:=fun ρ=>match ρ[j]? with
 | some (some d)=> .nx ((ρ.set j none).set i (some d))
 | _=> .bad
section
variable{X:Cx}{E:XK}{μ:List Nat}{r:Nat}
theorem EJ {i j:Nat}{x y:Str}{py pos' pos:Pos}(hN:X.N.Nodup)(hi:X.N[i]?=some x)(hj:X.N[j]?=some y)(hx:zY X.env.scope x)(hy:xP X.env.scope y)(hm:μ.getD i 0=0)(hf:X.fn x=true∨X.env.scope.names.lookup x=some .local:=by first | exact .inl rfl | exact .inr rfl)
  (hd:(y == ("__debug__" :Str))=false:=by decide) (hcd:(y == ("__classdict__" :Str))=false:=by decide)
  (hsw:swapsWith (.Name y py) (some (.Name x pos')) pos.line X.env=pure false:=by rfl):mD X E μ r (.Assign [.Name x pos'] (.Name y py) pos) (wW i j):=by
 intro pins s σ Ge B G H ρ f I R ho
 have hiσ:i < σ.length:=by rw [I.len]; exact (d7 hi).1
 have hslot:∃ d,ρ[j]?=some (some d):=by
  unfold wW at ho
  split at ho
  ·rename_i d q; exact ⟨d,q⟩
  ·exact ho.elim
 obtain ⟨d,hr⟩:=hslot
 have eo:wW i j ρ= .nx ((ρ.set j none).set i (some d)):=by
  unfold wW
  rw [hr]
 rw [eo]
 obtain ⟨v,k1,o⟩:=R.sl j d hr
 refine aT (zu (pos:=pos) (pos':=pos') hN hi hx (iq (pos:=py) hj hy hd hcd) hsw hf pins s σ H { nx:=fun σ' H'=>σ'=σ.set i (some v)∧H'=H,bk:=fun _ _=>False,ct:=fun _ _=>False,rt:=fun _ _=>False } I (iI v k1 rfl rfl)) fun fl s1 q=> ?_
 cases fl with
 | next=>
  obtain ⟨σ',H',I',e1,e2⟩:=q
  rw [e1,e2] at I'
  have R1:=R.forget (i:=j) (o:=some v)
  rw [tS k1] at R1
  have dec:∀ b,Decidable (b∈f j):=fun b=>Classical.propDecidable _
  have W:Same G (fun b=>if b∈f j then H b else G b):=fun b u e=>by
   show (if b∈f j then H b else G b)=some u
   by_cases q:b∈f j
   ·rw [R.gf j b q] at e; cases e
   ·rw [if_neg q]; exact e
  have rp:Rep X.K (fun b=>if b∈f j then H b else G b) d v:=o.rep W fun a ha u e=>by
   show (if a∈f j then H a else G a)=some u
   rw [if_pos ha]; exact e
  have R2:Rw X.K μ Ge B (fun b=>if b∈f j then H b else G b) H σ (ρ.set j none) (fun k=>if k=j then [] else f k):=by
   refine ⟨fun b u e=> ?_,R1.eg.trans W,R1.bh,fun b u e=> ?_,fun k a e=> ?_,R1.ob,R1.oc,R1.nd,R1.dj,fun k d e=> ?_⟩
   ·have e:(if b∈f j then H b else G b)=some u:=e
    by_cases q:b∈f j
    ·rw [if_pos q] at e; exact e
    ·rw [if_neg q] at e; exact R.gh b u e
   ·have e:(if b∈f j then H b else G b)=some u:=e
    by_cases q:b∈f j
    ·exact .inr (.inl (R.ob j b q))
    ·rw [if_neg q] at e; exact R.nw b u e
   ·show (if a∈f j then H a else G a)=none
    by_cases hkj:k=j
    ·rw [if_pos hkj] at e; cases e
    ·rw [if_neg hkj] at e
     rw [if_neg (fun z=>hkj (R.dj k j a e z))]
     exact R.gf k a e
   ·obtain ⟨v,hv,hh⟩:=R1.sl k d e
    exact ⟨v,hv,hh.mono W fun a _ o eo=>eo⟩
  exact ⟨_,_,_,_,_,rfl,I',R2.put (S:=[]) hiσ (by rw [hm]; exact ⟨rfl,rp⟩) List.nodup_nil (fun a h=>by cases h) (fun k _ a h=>by cases h),W⟩
 | brk=>obtain ⟨_,_,_,q⟩:=q; exact q.elim
 | cont=>obtain ⟨_,_,_,q⟩:=q; exact q.elim
 | ret u=>obtain ⟨_,_,_,_,_,q⟩:=q; exact q.elim
end
end L2
set_option maxHeartbeats 4000000
namespace K05
open PySem L2
noncomputable def top (i:Nat):Stmt:=PySem.Challenge.pw_haltline_k05_whole_no_earlier_table.main.body.getD i (.Pass ⟨0,0,0,0⟩)
structure Txt (K:W.Frag)(mg:Str→Option Value)(CL:Addr):Prop where
 b_len:mg "len" =none
 b_list:mg "list" =none
 b_range:mg "range" =none
 b_min:mg "min" =none
 b_max:mg "max" =none
 b_tuple:mg "tuple" =none
 b_sorted:mg "sorted" =none
 b_enumerate:mg "enumerate" =none
 b_zip:mg "zip" =none
 b_abs:mg "abs" =none
 mS:∃ t,mg "MOST_STRETCHES" =some (.int 5 t)
 mR:∃ t,mg "MOST_RUN" =some (.int 20 t)
 mC:∃ t,mg "MOST_CLEAR" =some (.int 5 t)
 mT:∃ t,mg "MOST_TRAINS" =some (.int 5 t)
 mY:∃ t,mg "MOST_READY" =some (.int 60 t)
 mgL:mg "Line" =some (.ref CL)
 cl:Cls K CL
 nM:NoAttr K CL "minutes"
 nG:NoAttr K CL "gap"
section
variable{P:Program}{w:World}{K:W.Frag}{mg:Str→Option Value}{base:Heap}{CL:Addr}
seal L2.PD L2.mB L2.ub L2.PDW L2.Ft L2.PN L2.PZ L2.mD L2.ud L2.Hw L2.Hx
noncomputable abbrev iz:Stmt:=top 13
noncomputable abbrev gY:List Str:=["runs","clear","run"]
@[irreducible] noncomputable def eE (K:W.Frag)(CL:Addr):DS→Out:=(ax (ii (mq (hX (kI 1) (c1 (ac 0) ba) (kI 5) sO sO)) bad1 nxt)
  (ax (c_ (sL (ac 0)) (bw 2) (ii (mq (hX (kI 1) (ac 2) (kI 20) sO sO)) bad1 nxt))
  (ii (mq (hX (kI 0) (ac 1) (kI 5) sO sO)) bad1 nxt)))
noncomputable def bx (K:W.Frag)(CL:Addr):List D→Res D:=iG 2 gY (eE K CL)
theorem sc_check_line:FnScope gY ["runs","clear"] (ai iz):=⟨rfl,rfl,rfl,by decide +kernel,rfl,by decide +kernel,by decide +kernel⟩
theorem hJ (T:Txt K mg CL)(S:Sta K mg "check_line" iz ["runs","clear"]):Cal P w K mg base "check_line" 1 ["runs","clear"] (freshSp K 0 (bx K CL)):=by
 refine S.cal (k:=0) (r:=0) (F:=eE K CL) sc_check_line [] (by decide) rfl fun f cdv A outer s H E hr=> ?_
 unfold eE
 exact (ah (bN (eM (eS gy gy ag (aY T.b_len (dv 0)) (tj T.mS))) (ak cm) bi)
   (ah (cv (j:=2) PassesOwn.leaving rfl sc_check_line.nd rfl (.inl rfl) rfl (jZ (bI (dv 0)))
    (ak (bN (eM (eS gy gy ag (dv 2) (tj T.mR))) (ak cm) bi)))
   (ak (bN (eM (eS gy gy ag (dv 1) (tj T.mC))) (ak cm) bi))))
noncomputable abbrev uV:Stmt:=jk (top 12) 0
noncomputable abbrev uW:Stmt:=jk (top 12) 1
noncomputable abbrev rm:Stmt:=jk (top 12) 2
noncomputable def d8 (CL:Addr):List D→Res D
 | [d]=>(km CL "minutes" d).bind fun x=>gB [x]
 | _=> .bad
noncomputable def ij (CL:Addr):List D→Res D
 | [d]=>km CL "gap" d
 | _=> .bad
noncomputable def jF (K:W.Frag)(CL:Addr):List D→Res D
 | [.lst l,.int c]=>(bx K CL [.lst l,.int c]).bind fun _=> .ok (.ins CL ["minutes","gap"] [.tup l,.int c])
 | _=> .bad
theorem yS:CO CL (jF K CL):=by
 intro ds d h
 unfold jF at h
 split at h
 ·rename_i l c
  cases q:bx K CL [.lst l,.int c] with
  | ok x=>rw [q] at h; cases h; exact ⟨_,_,rfl⟩
  | exc x=>rw [q] at h; cases h
  | bad=>rw [q] at h; cases h
 ·cases h
theorem pL {E:XK}{H:Hp}{ds:List D}(h:OkR E H (jF K CL ds)):∃ l c,ds=[.lst l,.int c]:=by
 unfold jF at h
 split at h
 ·exact ⟨_,_,rfl⟩
 ·exact h.elim
theorem AR (v u:V):ir "gap" u (ir "minutes" v [])=([("minutes",v),("gap",u)]:List (Str×V)):=by
 show (if ("minutes" :Str)= "gap" then [(("minutes" :Str),u)] else (("minutes" :Str),v) :: ir "gap" u [])=([("minutes",v),("gap",u)]:List (Str×V))
 rw [if_neg (by decide +kernel)]
 rfl
theorem BU:FnScope ["self","runs","clear"] ["self","runs","clear"] (ai uV):=⟨rfl,rfl,rfl,by decide +kernel,rfl,by decide +kernel,by decide +kernel⟩
theorem Bm {f:Addr}{fd:FuncData}(F:Fun K "__init__" "Line.__init__" uV f fd)(T:Txt K mg CL)(hJ:Cal P w K mg base "check_line" 1 ["runs","clear"] (freshSp K 0 (bx K CL))):FnOk P w K mg base (CXF P w) 2 f fd ["self","runs","clear"] (qM K CL (jF K CL)):=by
 refine F.okF BU (fun vs H Q E h=> ?_) (fun cdv A outer s H vs Q E hr h=> ?_)
 ·obtain ⟨p,dx,rest,ds,G,rfl,_,_,_,rl,ho,_⟩:=h
  obtain ⟨l,c,rfl⟩:=pL ho
  have:=rl.length
  simp only [List.length_cons,List.length_nil] at this ⊢
  omega
 ·obtain ⟨p,dx,rest,ds,G,rfl,hp,hs,gp,rl,ho,k⟩:=h
  obtain ⟨l,c,rfl⟩:=pL ho
  ·obtain ⟨v1,r1,rfl,p1,rl⟩:=rl.inv
   obtain ⟨v2,r2,rfl,p2,rl⟩:=rl.inv
   cases rl.inv0
   have ho':OkR E H ((bx K CL [.lst l,.int c]).bind fun _=> .ok (D.ins CL ["minutes","gap"] [.tup l,.int c])):=ho
   refine ⟨_,tB (jq (fL (E:=E) (aH hJ hr (aa (dv 1) (aa (dv 2) af)))))
    (tB (zt (pv 0) (fL (E:=E) (zf T.b_tuple (dv 1))) rfl) (BO (zt (pv 0) (pv 2) rfl))),?_⟩
   have ro:Ro K G (fY ["self","runs","clear"] [.ref p,v1,v2]) [none,some (.lst l),some (.int c)]:=Ro.skip (Ro.cons p1 (Ro.cons p2 Ro.nil))
   refine ⟨G,_,hs,ro,ho'.fst,fun d ed v G1 H1 x1 rp1=> ?_⟩
   refine ⟨G1,_,x1.gh,ro.mono x1.gg,trivial,fun d2 ed2 u G2 H2 x2 rp2=> ?_⟩
   have ed3:d2= .tup l:=by cases ed2; rfl
   subst ed3
   have x:=x1.trans x2
   have h2p:H2 p=some (.ins CL dx []):=x.hh _ _ hp
   have g2p:G2 p=none:=by
    cases q:G2 p with
    | none=>rfl
    | some o=>
     rcases x.nw p o q with z | z | ⟨ks,z⟩
     ·rw [gp] at z; cases z
     ·rw [hp] at z; cases z
     ·have h3:=x.gh p o q; rw [h2p] at h3; cases h3; cases z
   refine ⟨_,rfl,p,CL,dx,[],rfl,h2p,T.cl,T.nM,(by show 0 < 1000; decide),_,rfl,_,rfl,p,CL,dx,_,rfl,aw,T.cl,T.nG,(by show 1 < 1000; decide),?_⟩
   refine k ["minutes","gap"] [.tup l,.int c] ?_ [("minutes",u),("gap",v2)] G2 _ rfl (.cons rp2 (.cons (p2.mono x.gg) .nil)) (by rw [aw,AR]) (fun b o e hb=> ?_) x.gg (fun b o e=> ?_) x.nw g2p
   ·show (bx K CL [.lst l,.int c]).bind _=_
    have:bx K CL [.lst l,.int c]= .ok d:=ed
    rw [this]
    rfl
   ·rw [al hb,al hb]
    exact x.hh b o e
   ·have hb:b≠p:=fun z=>by subst z; rw [g2p] at e; cases e
    rw [al hb,al hb]
    exact x.gh b o e
theorem BV:FnScope ["self"] ["self"] (ai uW):=⟨rfl,rfl,rfl,by decide +kernel,rfl,by decide +kernel,by decide +kernel⟩
theorem Bo {f:Addr}{fd:FuncData}(F:Fun K "runs" "Line.runs" uW f fd)(T:Txt K mg CL):FnOk P w K mg base (CXF P w) 1 f fd ["self"] (pureSp K (d8 CL)):=by
 refine F.pure BV (fun ds h=> ?_) (fun cdv A outer s H E hr=> ?_)
 ·unfold d8 at h
  split at h
  ·rfl
  ·exact absurd rfl h
 ·refine ⟨_,we (zq (lH j8 vx rfl T.b_list vp (aa (za (dv 0) T.cl T.nM) af))),?_⟩
  intro ds h
  match ds,h with
  | [d],h=>
   show fD ((((km CL "minutes" d).bind _).bind _).out _)=(km CL "minutes" d).bind _
   cases km CL "minutes" d with
   | ok x=>
    show fD ((gB [x]).out Out.rt)=gB [x]
    cases gB [x] <;> rfl
   | _=>rfl
  | [],h=>exact absurd rfl h
  | _ :: _ :: _,h=>exact absurd rfl h
theorem zG:FnScope ["self"] ["self"] (ai rm):=⟨rfl,rfl,rfl,by decide +kernel,rfl,by decide +kernel,by decide +kernel⟩
theorem y8 {f:Addr}{fd:FuncData}(F:Fun K "clear" "Line.clear" rm f fd)(T:Txt K mg CL):FnOk P w K mg base (CXF P w) 1 f fd ["self"] (pureSp K (ij CL)):=by
 refine F.pure zG (fun ds h=> ?_) (fun cdv A outer s H E hr=> ?_)
 ·unfold ij at h
  split at h
  ·rfl
  ·exact absurd rfl h
 ·refine ⟨_,we (zq (za (dv 0) T.cl T.nG)),?_⟩
  intro ds h
  match ds,h with
  | [d],h=>
   show fD ((km CL "gap" d).out _)=km CL "gap" d
   cases km CL "gap" d <;> rfl
  | [],h=>exact absurd rfl h
  | _ :: _ :: _,h=>exact absurd rfl h
noncomputable abbrev iw:Stmt:=top 40
noncomputable abbrev gX:List Str:=["script","k","many","cell","stir"]
@[irreducible] noncomputable def eD (K:W.Frag)(CL:Addr):DS→Out:=(ax (aQ 3 (kI 7))
  (ax (ii (eY (ae (c1 (ac 0) ba) (kI 0) Hk)) (aQ 3 (ae (ac 0) (ae (ac 1) (c1 (ac 0) ba) qU) aA)) nxt)
  (ax (aQ 4 (ae (ae (ae (ae (ac 3) (kI 48271) dR) (ae (ae (ac 1) (kI 1) aO) (kI 7919) dR) aO) (c1 (ac 0) ba) aO) (kI 2147483647) qU))
  (ax (aQ 4 (ae (ae (ae (ae (ac 4) (ac 4) dR) (ae (ac 1) (kI 16807) dR) aO) (kI 11) aO) (kI 2147483647) qU))
  (bJ (ae (ae (ae (ae (ac 4) (kI 48271) dR) (kI 2147483647) qU) (kI 16) vG) (ac 2) qU))))))
noncomputable def am (K:W.Frag)(CL:Addr):List D→Res D:=iG 3 gX (eD K CL)
theorem sc__law_drawn:FnScope gX ["script","k","many"] (ai iw):=⟨rfl,rfl,rfl,by decide +kernel,rfl,by decide +kernel,by decide +kernel⟩
theorem aI (T:Txt K mg CL)(S:Sta K mg "_law_drawn" iw ["script","k","many"]):Cal P w K mg base "_law_drawn" 1 ["script","k","many"] (freshSp K 0 (am K CL)):=by
 refine S.cal (k:=0) (r:=0) (F:=eD K CL) sc__law_drawn [] (by decide) rfl fun f cdv A outer s H E hr=> ?_
 unfold eD
 exact (ah (aE (i:=3) sc__law_drawn.nd rfl (.inl rfl) (aL (PN.of ag)))
   (ah (bN (aS Cp (aY T.b_len (dv 0)) ag (bu _)) (ak (aE (i:=3) sc__law_drawn.nd rfl (.inl rfl) (aL (PN.of (ao (dv 0) (aq lb (dv 1) (aY T.b_len (dv 0)))))))) bi)
   (ah (aE (i:=4) sc__law_drawn.nd rfl (.inl rfl) (aL (PN.of (aq lb (aq aB (aq aB (aq cc (dv 3) ag) (aq cc (aq aB (dv 1) ag) ag)) (aY T.b_len (dv 0))) ag))))
   (ah (aE (i:=4) sc__law_drawn.nd rfl (.inl rfl) (aL (PN.of (aq lb (aq aB (aq aB (aq cc (dv 4) (dv 4)) (aq cc (dv 1) ag)) ag) ag))))
   (ak (aZ (aL (PN.of (aq lb (aq Ao (aq lb (aq cc (dv 4) ag) ag) ag) (dv 2))))))))))
noncomputable abbrev dC:Stmt:=top 41
noncomputable abbrev dg:List Str:=["script","base","many","runs"]
@[irreducible] noncomputable def da (K:W.Frag)(CL:Addr):DS→Out:=(ax (aQ 2 (ae (kI 1) (bD (pC (ac 0) (pC (ac 1) (pC (kI 5) pN))) (am K CL)) aO))
  (ax (aQ 3 (aV (sR1 (pC (ac 2) pN)) [none,some 0,some 1] (bw 0) yes (ae (kI 1) (bD (pC (ac 1) (pC (ae (ae (ac 2) (kI 2) aO) (ac 0) aO) (pC (ae (i6 (pC (kI 4) (pC (kI 20) pN))) (bD (pC (ac 1) (pC (ae (ac 2) (kI 1) aO) (pC (kI 2) pN))) (am K CL)) aA) pN))) (am K CL)) aO)))
  (bJ (fK (pC (ac 3) (pC (bD (pC (ac 0) (pC (ae (ac 1) (kI 8) aO) (pC (kI 6) pN))) (am K CL)) pN))))))
noncomputable def cj (K:W.Frag)(CL:Addr):List D→Res D:=iG 2 dg (da K CL)
theorem sc__law_line_by:FnScope dg ["script","base"] (ai dC):=⟨rfl,rfl,rfl,by decide +kernel,rfl,by decide +kernel,by decide +kernel⟩
theorem eZ (T:Txt K mg CL)(S:Sta K mg "_law_line_by" dC ["script","base"])(aI:Cal P w K mg base "_law_drawn" 1 ["script","k","many"] (freshSp K 0 (am K CL))):Cal P w K mg base "_law_line_by" 2 ["script","base"] (freshSp K 0 (cj K CL)):=by
 refine S.cal (k:=1) (r:=0) (F:=da K CL) sc__law_line_by [] (by decide) rfl fun f cdv A outer s H E hr=> ?_
 unfold da
 exact (ah (aE (i:=2) sc__law_line_by.nd rfl (.inl rfl) (aL (PN.of (aq aB ag (aH aI hr (aa (dv 0) (aa (dv 1) (aa ag af))))))))
   (ah (CD (kL sc__law_line_by.nd (i:=3) rfl rfl rfl (aW (N:=["k","script","base"]) (caps:=[none,some 0,some 1]) (ai dC) dg rfl rfl (by decide +kernel)) (j:=0) rfl rfl rfl (jW rfl T.b_range (aa (dv 2) af)) (fun _ _ _ _=>bo) (fun _ _ _ _=>(PN.of (aq aB ag (aH aI hr (aa (dv 1) (aa (aq aB (aq aB (dv 2) ag) (dv 0)) (aa (ao (uO (aa ag (aa ag af))) (aH aI hr (aa (dv 1) (aa (aq aB (dv 2) ag) (aa ag af))) fF)) af))) fF))))) rfl)
   (ak (aZ (aL (PN.of (dA (aa (dv 3) (aa (aH aI hr (aa (dv 0) (aa (aq aB (dv 1) ag) (aa ag af)))) af)))))))))
noncomputable abbrev dS:Stmt:=top 42
noncomputable abbrev bR:List Str:=["script","base","stretches","most","trains","k","start","goal"]
noncomputable abbrev aU:List Nat:=[0,0,0,0,1,0,0,0]
@[irreducible] noncomputable def bF (K:W.Frag)(CL:Addr):DS→Out:=(ax (aQ 4 (bZ aU (i6 pN)))
  (ax (c_ (sR1 (pC (ae (kI 1) (bD (pC (ac 0) (pC (ac 1) (pC (ac 3) pN))) (am K CL)) aO) pN)) (bw 5) (ax (aQ 6 (bZ aU (bD (pC (ac 0) (pC (ae (ae (ac 1) (kI 1) aO) (ae (kI 5) (ac 5) dR) aO) (pC (ae (ac 2) (kI 1) aO) pN))) (am K CL))))
  (ax (aQ 7 (bZ aU (ae (ae (ae (ac 6) (kI 1) aO) (bD (pC (ac 0) (pC (ae (ae (ac 1) (kI 2) aO) (ae (kI 5) (ac 5) dR) aO) (pC (ac 2) pN))) (am K CL)) aO) (ae (ac 2) (kI 1) aO) qU)))
  (ax (ii (eY (ae (bD (pC (ac 0) (pC (ae (ae (ac 1) (kI 3) aO) (ae (kI 5) (ac 5) dR) aO) (pC (kI 3) pN))) (am K CL)) (kI 1) xQ)) (ax (aQ 6 (bZ aU (ae (bD (pC (ac 0) (pC (ae (ae (ac 1) (kI 4) aO) (ae (kI 5) (ac 5) dR) aO) (pC (kI 2) pN))) (am K CL)) (ac 2) dR)))
  (aQ 7 (bZ aU (ae (ac 2) (ac 6) rC)))) nxt)
  (k9 4 (bZ aU (fK (pC (ac 6) (pC (ac 7) (pC (bD (pC (ac 0) (pC (ae (ae (ac 1) (kI 5) aO) (ae (kI 5) (ac 5) dR) aO) (pC (ae (i6 (pC (kI 1) (pC (kI 9) (pC (kI 61) pN)))) (bD (pC (ac 0) (pC (ae (ac 1) (kI 40) aO) (pC (kI 3) pN))) (am K CL)) aA) pN))) (am K CL)) pN))))))))))
  (bJ (ac 4))))
noncomputable def bG (K:W.Frag)(CL:Addr):List D→Res D:=iG 4 bR (bF K CL)
theorem sc__law_trains_by:FnScope bR ["script","base","stretches","most"] (ai dS):=⟨rfl,rfl,rfl,by decide +kernel,rfl,by decide +kernel,by decide +kernel⟩
theorem dM (T:Txt K mg CL)(S:Sta K mg "_law_trains_by" dS ["script","base","stretches","most"])(aI:Cal P w K mg base "_law_drawn" 1 ["script","k","many"] (freshSp K 0 (am K CL))):Cal P w K mg base "_law_trains_by" 2 ["script","base","stretches","most"] (freshSp K 1 (bG K CL)):=by
 refine S.cal (k:=1) (r:=1) (F:=bF K CL) sc__law_trains_by aU (by decide) rfl fun f cdv A outer s H E hr=> ?_
 unfold bF
 exact (ah (aE (i:=4) sc__law_trains_by.nd rfl (.inl rfl) (ay (jX af)))
   (ah (cv (j:=5) PassesOwn.leaving rfl sc__law_trains_by.nd rfl (.inl rfl) rfl (cz rfl T.b_range (aa (aq aB ag (aH aI hr (aa (dv 0) (aa (dv 1) (aa (dv 3) af))))) af))
    (ah (aE (i:=6) sc__law_trains_by.nd rfl (.inl rfl) (ay (PN.of (aH aI hr (aa (dv 0) (aa (aq aB (aq aB (dv 1) ag) (aq cc ag (dv 5))) (aa (aq aB (dv 2) ag) af)))))))
   (ah (aE (i:=7) sc__law_trains_by.nd rfl (.inl rfl) (ay (PN.of (aq lb (aq aB (aq aB (dv 6) ag) (aH aI hr (aa (dv 0) (aa (aq aB (aq aB (dv 1) ag) (aq cc ag (dv 5))) (aa (dv 2) af))))) (aq aB (dv 2) ag)))))
   (ah (bN (aS (sd hr.units) (aH aI hr (aa (dv 0) (aa (aq aB (aq aB (dv 1) ag) (aq cc ag (dv 5))) (aa ag af)))) ag (bu _)) (ah (aE (i:=6) sc__law_trains_by.nd rfl (.inl rfl) (ay (PN.of (aq cc (aH aI hr (aa (dv 0) (aa (aq aB (aq aB (dv 1) ag) (aq cc ag (dv 5))) (aa ag af)))) (dv 2)))))
   (ak (aE (i:=7) sc__law_trains_by.nd rfl (.inl rfl) (ay (PN.of (aq nh (dv 2) (dv 6))))))) bi)
   (ak (jp (j:=4) (n:=0) rfl rfl (.inl rfl) (ay (PN.of (dA (aa (dv 6) (aa (dv 7) (aa (aH aI hr (aa (dv 0) (aa (aq aB (aq aB (dv 1) ag) (aq cc ag (dv 5))) (aa (ao (uO (aa ag (aa ag (aa ag af)))) (aH aI hr (aa (dv 0) (aa (aq aB (dv 1) ag) (aa ag af))))) af)))) af))))))))))))
   (ak (kJ (i:=4) rfl rfl (.inl rfl)))))
noncomputable abbrev fI:Stmt:=top 43
noncomputable abbrev eV:List Str:=["train"]
@[irreducible] noncomputable def gQ (K:W.Frag)(CL:Addr):DS→Out:=(ax (ii (eY (ae (ae (ac 0) (kI 0) aA) (ae (ac 0) (kI 1) aA) sV)) (bJ (aV (sR2 (pC (ae (ac 0) (kI 0) aA) (pC (ae (ac 0) (kI 1) aA) pN))) [none] (bw 0) yes (ac 0))) nxt)
  (bJ (ae (aV (sR2 (pC (ae (ac 0) (kI 1) aA) (pC (ae (ac 0) (kI 0) aA) pN))) [none] (bw 0) yes (ac 0)) (nG (kI 1)) tH)))
noncomputable def bf (K:W.Frag)(CL:Addr):List D→Res D:=iG 1 eV (gQ K CL)
theorem tM:FnScope eV ["train"] (ai fI):=⟨rfl,rfl,rfl,by decide +kernel,rfl,by decide +kernel,by decide +kernel⟩
theorem cQ (T:Txt K mg CL)(S:Sta K mg "_law_way" fI ["train"]):Cal P w K mg base "_law_way" 1 ["train"] (freshSp K 0 (bf K CL)):=by
 refine S.cal (k:=0) (r:=0) (F:=gQ K CL) tM [] (by decide) rfl fun f cdv A outer s H E hr=> ?_
 unfold gQ
 exact (ah (bN (aS ka (ao (dv 0) ag) (ao (dv 0) ag) (bu _)) (ak (aZ (aL (PN.of (PN.pd (ce (j:=0) rfl (aW (N:=["k"]) (caps:=[none]) (ai fI) eV rfl rfl (by decide +kernel)) rfl rfl rfl (nW rfl T.b_range (aa (ao (dv 0) ag) (aa (ao (dv 0) ag) af))) (fun _ _ _ _=>bo) (fun _ _ _ _=>(PN.of (dv 0))))))))) bi)
   (ak (aZ (aL (PN.of (PN.pd (EL (PN.pd (ce (j:=0) rfl (aW (N:=["k"]) (caps:=[none]) (ai fI) eV rfl rfl (by decide +kernel)) rfl rfl rfl (nW rfl T.b_range (aa (ao (dv 0) ag) (aa (ao (dv 0) ag) af))) (fun _ _ _ _=>bo) (fun _ _ _ _=>(PN.of (dv 0))))) (qZ ag))))))))
noncomputable abbrev ja:Stmt:=top 45
noncomputable abbrev iP:List Str:=["runs","gap","trains","table","visits","k","places","soonest","j","a","b","far"]
noncomputable abbrev aP:List Nat:=[0,0,0,0,1,0,0,0,0,0,0,0]
@[irreducible] noncomputable def fM (K:W.Frag)(CL:Addr):DS→Out:=(ax (ii (eY (ae (c1 (ac 3) ba) (c1 (ac 2) ba) uJ)) (bJ (bZ aP (kB false))) nxt)
  (ax (aQ 4 (bZ aP (i6 pN)))
  (ax (c_ (sR1 (pC (c1 (ac 2) ba) pN)) (bw 5) (ax (aQ 6 (bZ aP (bD (pC (ae (ac 2) (ac 5) aA) pN) (bf K CL))))
  (ax (ii (eY (ae (c1 (ae (ac 3) (ac 5) aA) ba) (c1 (ac 6) ba) uJ)) (bJ (bZ aP (kB false))) nxt)
  (ax (aQ 7 (bZ aP (ae (ae (ac 2) (ac 5) aA) (kI 2) aA)))
  (c_ (sR1 (pC (c1 (ac 6) ba) pN)) (bw 8) (ax (ii (eY (ae (ae (ae (ac 3) (ac 5) aA) (ac 8) aA) (ac 7) sV)) (bJ (bZ aP (kB false))) nxt)
  (ax (aQ 7 (bZ aP (ae (ae (ae (ac 3) (ac 5) aA) (ac 8) aA) (ae (ac 0) (ae (ac 6) (ac 8) aA) aA) aO)))
  (k9 4 (bZ aP (fK (pC (ae (ac 6) (ac 8) aA) (pC (ae (ae (ac 3) (ac 5) aA) (ac 8) aA) pN))))))))))))
  (ax (c_ (sR1 (pC (c1 (ac 4) ba) pN)) (bw 9) (c_ (sR1 (pC (ac 9) pN)) (bw 10) (ax (aQ 11 (rK 0 (c1 (ae (ae (ae (ac 4) (ac 9) aA) (kI 1) aA) (ae (ae (ac 4) (ac 10) aA) (kI 1) aA) rC) wz)))
  (ii (wA (eY (ae (ae (ae (ac 4) (ac 9) aA) (kI 0) aA) (ae (ae (ac 4) (ac 10) aA) (kI 0) aA) xQ)) (eY (ae (ac 11) (ae (ae (ac 0) (ae (ae (ac 4) (ac 9) aA) (kI 0) aA) aA) (ac 1) aO) sV))) (bJ (bZ aP (kB false))) nxt))))
  (bJ (bZ aP (kB true)))))))
noncomputable def cW (K:W.Frag)(CL:Addr):List D→Res D:=iG 4 iP (fM K CL)
theorem sc__law_kept:FnScope iP ["runs","gap","trains","table"] (ai ja):=⟨rfl,rfl,rfl,by decide +kernel,rfl,by decide +kernel,by decide +kernel⟩
theorem iS (T:Txt K mg CL)(S:Sta K mg "_law_kept" ja ["runs","gap","trains","table"])(cQ:Cal P w K mg base "_law_way" 1 ["train"] (freshSp K 0 (bf K CL))):Cal P w K mg base "_law_kept" 2 ["runs","gap","trains","table"] (freshSp K 0 (cW K CL)):=by
 refine S.cal (k:=1) (r:=0) (F:=fM K CL) sc__law_kept aP (by decide) rfl fun f cdv A outer s H E hr=> ?_
 unfold fM
 exact (ah (bN (aS (ng hr.units) (aY T.b_len (dv 3)) (aY T.b_len (dv 2)) (bu _)) (ak (aZ (ay (PN.of fG)))) bi)
   (ah (aE (i:=4) sc__law_kept.nd rfl (.inl rfl) (ay (jX af)))
   (ah (cv (j:=5) PassesOwn.leaving rfl sc__law_kept.nd rfl (.inl rfl) rfl (cz rfl T.b_range (aa (aY T.b_len (dv 2)) af))
    (ah (aE (i:=6) sc__law_kept.nd rfl (.inl rfl) (ay (PN.of (aH cQ hr (aa (ao (dv 2) (dv 5)) af)))))
   (ah (bN (aS (ng hr.units) (aY T.b_len (ao (dv 3) (dv 5))) (aY T.b_len (dv 6)) (bu _)) (ak (aZ (ay (PN.of fG)))) bi)
   (ah (aE (i:=7) sc__law_kept.nd rfl (.inl rfl) (ay (PN.of (ao (ao (dv 2) (dv 5)) ag))))
   (ak (cv (j:=8) PassesOwn.leaving rfl sc__law_kept.nd rfl (.inl rfl) rfl (cz rfl T.b_range (aa (aY T.b_len (dv 6)) af))
    (ah (bN (aS ka (ao (ao (dv 3) (dv 5)) (dv 8)) (dv 7) (bu _)) (ak (aZ (ay (PN.of fG)))) bi)
   (ah (aE (i:=7) sc__law_kept.nd rfl (.inl rfl) (ay (PN.of (aq aB (ao (ao (dv 3) (dv 5)) (dv 8)) (ao (dv 0) (ao (dv 6) (dv 8)))))))
   (ak (jp (j:=4) (n:=0) rfl rfl (.inl rfl) (ay (PN.of (dA (aa (ao (dv 6) (dv 8)) (aa (ao (ao (dv 3) (dv 5)) (dv 8)) af)))))))))))))))
   (ah (cv (j:=9) PassesOwn.leaving rfl sc__law_kept.nd rfl (.inl rfl) rfl (cz rfl T.b_range (aa (aY T.b_len (dv 4)) af))
    (ak (cv (j:=10) PassesOwn.leaving rfl sc__law_kept.nd rfl (.inl rfl) rfl (cz rfl T.b_range (aa (dv 9) af))
    (ah (aE (i:=11) sc__law_kept.nd rfl (.inl rfl) (eO (PN.of (Ew T.b_abs (aq nh (ao (ao (dv 4) (dv 9)) ag) (ao (ao (dv 4) (dv 10)) ag))))))
   (ak (bN (PDW.pt (vW (aS (sd hr.units) (ao (ao (dv 4) (dv 9)) ag) (ao (ao (dv 4) (dv 10)) ag) (bu _)) (tq (aS ka (dv 11) (aq aB (ao (dv 0) (ao (ao (dv 4) (dv 9)) ag)) (dv 1)) (bu _))))) (ak (aZ (ay (PN.of fG)))) bi))))))
   (ak (aZ (ay (PN.of fG))))))))
noncomputable abbrev bj:Stmt:=top 47
noncomputable abbrev bd:List Str:=["runs","gap","trains","table","free","there","some","k","stretch","pick"]
noncomputable abbrev aK:List Nat:=[0,0,0,2,1,1,1,0,0,0]
@[irreducible] noncomputable def cb (K:W.Frag)(CL:Addr):DS→Out:=(ax (aQ 3 (bZ aK (aV (sL (ac 2)) [none] (bw 0) yes (i6 pN))))
  (ax (aQ 4 (bZ aK (aV (sL (ac 0)) [none] (bw 0) yes (kI 0))))
  (ax (aQ 5 (bZ aK (aV (sL (ac 2)) [none] (bw 0) yes (ae (ac 0) (kI 2) aA))))
  (ax (cE (eY (ae (c1 (aV (sR1 (pC (c1 (ac 2) ba) pN)) [none,some 3,some 2] (bw 0) yes (ae (c1 (ae (ac 1) (ac 0) aA) ba) (c1 (bD (pC (ae (ac 2) (ac 0) aA) pN) (bf K CL)) ba) rC)) oQ) (kI 0) sV)) (ax (aQ 6 (bZ aK (i6 pN)))
  (ax (c_ (sR1 (pC (c1 (ac 2) ba) pN)) (bw 7) (ii (eY (ae (c1 (ae (ac 3) (ac 7) aA) ba) (c1 (bD (pC (ae (ac 2) (ac 7) aA) pN) (bf K CL)) ba) sV)) (ax (aQ 8 (rK 0 (ae (bD (pC (ae (ac 2) (ac 7) aA) pN) (bf K CL)) (c1 (ae (ac 3) (ac 7) aA) ba) aA)))
  (k9 6 (rK 0 (fK (pC (bD (pC (ae (ac 5) (ac 7) aA) (pC (ae (ac 4) (ac 8) aA) pN)) pO) (pC (ac 7) (pC (ac 8) pN))))))) nxt))
  (ax (aQ 9 (rK 0 (c1 (ac 6) i8)))
  (ax (tK 3 (ae (ac 9) (kI 1) aA) (bZ aK (ae (ac 9) (kI 0) aA)))
  (ax (lK 5 (ae (ac 9) (kI 1) aA) (bZ aK (ae (ae (ac 9) (kI 0) aA) (ae (ac 0) (ae (ac 9) (kI 2) aA) aA) aO)))
  (lK 4 (ae (ac 9) (kI 2) aA) (rK 0 (ae (ae (ac 5) (ae (ac 9) (kI 1) aA) aA) (ac 1) aO)))))))) 60)
  (bJ (ac 3))))))
noncomputable def bM (K:W.Frag)(CL:Addr):List D→Res D:=iG 3 bd (cb K CL)
theorem sc__law_first_come:FnScope bd ["runs","gap","trains"] (ai bj):=⟨rfl,rfl,rfl,by decide +kernel,rfl,by decide +kernel,by decide +kernel⟩
theorem dm (T:Txt K mg CL)(S:Sta K mg "_law_first_come" bj ["runs","gap","trains"])(cQ:Cal P w K mg base "_law_way" 1 ["train"] (freshSp K 0 (bf K CL))):Cal P w K mg base "_law_first_come" 2 ["runs","gap","trains"] (freshSp K 2 (bM K CL)):=by
 refine S.cal (k:=1) (r:=2) (F:=cb K CL) sc__law_first_come aK (by decide) rfl fun f cdv A outer s H E hr=> ?_
 unfold cb
 exact (ah (aE (i:=3) sc__law_first_come.nd rfl (.inr rfl) (ay (ce (j:=0) rfl (aW (N:=["train"]) (caps:=[none]) (ai bj) bd rfl rfl (by decide +kernel)) rfl rfl rfl (bI (dv 2)) (fun _ _ _ _=>bo) (fun _ _ _ _=>(jX af)))))
   (ah (uT (kL sc__law_first_come.nd (i:=4) rfl rfl rfl (aW (N:=["run"]) (caps:=[none]) (ai bj) bd rfl rfl (by decide +kernel)) (j:=0) rfl rfl rfl (bI (dv 0)) (fun _ _ _ _=>bo) (fun _ _ _ _=>(PN.of ag))) rfl rfl)
   (ah (uT (kL sc__law_first_come.nd (i:=5) rfl rfl rfl (aW (N:=["train"]) (caps:=[none]) (ai bj) bd rfl rfl (by decide +kernel)) (j:=0) rfl rfl rfl (bI (dv 2)) (fun _ _ _ _=>bo) (fun _ _ _ _=>(PN.of (ao (dv 0) ag)))) rfl rfl)
   (ah (tw 60 PassesOwn.leaving (aS ka (Bw T.b_min (PN.pd (ce (j:=0) rfl (aW (N:=["k","table","trains"]) (caps:=[none,some 3,some 2]) (ai bj) bd rfl rfl (by decide +kernel)) rfl rfl rfl (jW rfl T.b_range (aa (aY T.b_len (dv 2)) af)) (fun _ _ _ _=>bo) (fun _ _ _ _=>(PN.of (aq nh (aY T.b_len (ao (dv 1) (dv 0))) (aY T.b_len (aH cQ hr (aa (ao (dv 2) (dv 0)) af) fF)))))))) ag (bu _)) (ah (aE (i:=6) sc__law_first_come.nd rfl (.inl rfl) (ay (jX af)))
   (ah (cv (j:=7) PassesOwn.leaving rfl sc__law_first_come.nd rfl (.inl rfl) rfl (cz rfl T.b_range (aa (aY T.b_len (dv 2)) af))
    (ak (bN (aS ka (aY T.b_len (ao (dv 3) (dv 7))) (aY T.b_len (aH cQ hr (aa (ao (dv 2) (dv 7)) af))) (bu _)) (ah (aE (i:=8) sc__law_first_come.nd rfl (.inl rfl) (eO (PN.of (ao (aH cQ hr (aa (ao (dv 2) (dv 7)) af)) (aY T.b_len (ao (dv 3) (dv 7)))))))
   (ak (jp (j:=6) (n:=0) rfl rfl (.inl rfl) (eO (PN.of (dA (aa (Bv T.b_max (aa (ao (dv 5) (dv 7)) (aa (ao (dv 4) (dv 8)) af))) (aa (dv 7) (aa (dv 8) af))))))))) bi)))
   (ah (aE (i:=9) sc__law_first_come.nd rfl (.inl rfl) (eO (PN.of (Bx hr.units T.b_min (dv 6)))))
   (ah (xB (j:=3) (n:=0) rfl rfl (.inr (.inl rfl)) (ao (dv 9) ag) (ay (PN.of (ao (dv 9) ag))) GB)
   (ah (ra (j:=5) (n:=0) rfl rfl (.inl rfl) (ao (dv 9) ag) (ay (PN.of (aq aB (ao (dv 9) ag) (ao (dv 0) (ao (dv 9) ag))))))
   (ak (ra (j:=4) (n:=0) rfl rfl (.inl rfl) (ao (dv 9) ag) (eO (PN.of (aq aB (ao (dv 5) (ao (dv 9) ag)) (dv 1))))))))))))
   (ak (kJ (i:=3) rfl rfl (.inr (.inl rfl))))))))
noncomputable abbrev gq:Stmt:=top 15
noncomputable abbrev f7:List Str:=["line","train","last_halt","halt","ready"]
@[irreducible] noncomputable def dY (K:W.Frag)(CL:Addr):DS→Out:=(ax (ii (eY (ae (c1 (ac 1) ba) (kI 3) uJ)) bad1 nxt)
  (ax (aQ 2 (c1 (gG CL "runs" (ac 0) (d8 CL)) ba))
  (ax (c_ (sT (tT (ac 1) oN (oI (kI 2)))) (bw 3) (ii (mq (hX (kI 0) (ac 3) (ac 2) sO sO)) bad1 nxt))
  (ax (ii (eY (ae (ae (ac 1) (kI 0) aA) (ae (ac 1) (kI 1) aA) xQ)) bad1 nxt)
  (ax (aQ 4 (ae (ac 1) (kI 2) aA))
  (ii (mq (hX (kI 0) (ac 4) (kI 60) sO sO)) bad1 nxt))))))
noncomputable def ca (K:W.Frag)(CL:Addr):List D→Res D:=iG 2 f7 (dY K CL)
theorem sc_check_train:FnScope f7 ["line","train"] (ai gq):=⟨rfl,rfl,rfl,by decide +kernel,rfl,by decide +kernel,by decide +kernel⟩
theorem f_ (T:Txt K mg CL)(S:Sta K mg "check_train" gq ["line","train"])(c_runs:CalM P w K mg base CL "runs" 1 (d8 CL)):Cal P w K mg base "check_train" 2 ["line","train"] (freshSp K 0 (ca K CL)):=by
 refine S.cal (k:=1) (r:=0) (F:=dY K CL) sc_check_train [] (by decide) rfl fun f cdv A outer s H E hr=> ?_
 unfold dY
 exact (ah (bN (aS (ng hr.units) (aY T.b_len (dv 1)) ag (bu _)) (ak cm) bi)
   (ah (aE (i:=2) sc_check_train.nd rfl (.inl rfl) (aL (PN.of (aY T.b_len (l_ c_runs hr (dv 0))))))
   (ah (cv (j:=3) PassesOwn.leaving rfl sc_check_train.nd rfl (.inl rfl) rfl (jZ (BD (gH (dv 1) gI (gJ ag))))
    (ak (bN (eM (eS gy gy ag (dv 3) (dv 2))) (ak cm) bi)))
   (ah (bN (aS (sd hr.units) (ao (dv 1) ag) (ao (dv 1) ag) (bu _)) (ak cm) bi)
   (ah (aE (i:=4) sc_check_train.nd rfl (.inl rfl) (aL (PN.of (ao (dv 1) ag))))
   (ak (bN (eM (eS gy gy ag (dv 4) (tj T.mY))) (ak cm) bi)))))))
noncomputable abbrev zF:Stmt:=top 14
noncomputable abbrev xV:List Str:=["line","train","start","end"]
@[irreducible] noncomputable def ve (K:W.Frag)(CL:Addr):DS→Out:=(ax (pq (bD (pC (ac 0) (pC (ac 1) pN)) (ca K CL)))
  (ax (aQ 2 (ae (ac 1) (kI 0) aA))
  (ax (aQ 3 (ae (ac 1) (kI 1) aA))
  (ax (ii (eY (ae (ac 2) (ac 3) sV)) (bJ (bD (pC (ac 2) (pC (ac 3) pN)) pJ)) nxt)
  (bJ (bD (pC (ae (ac 2) (kI 1) rC) (pC (ae (ac 3) (kI 1) rC) (pC (nG (kI 1)) pN))) pK))))))
noncomputable def sW (K:W.Frag)(CL:Addr):List D→Res D:=iG 2 xV (ve K CL)
theorem sc_way:FnScope xV ["line","train"] (ai zF):=⟨rfl,rfl,rfl,by decide +kernel,rfl,by decide +kernel,by decide +kernel⟩
theorem x7 (T:Txt K mg CL)(S:Sta K mg "way" zF ["line","train"])(f_:Cal P w K mg base "check_train" 2 ["line","train"] (freshSp K 0 (ca K CL))):Cal P w K mg base "way" 3 ["line","train"] (freshSp K 0 (sW K CL)):=by
 refine S.cal (k:=2) (r:=0) (F:=ve K CL) sc_way [] (by decide) rfl fun f cdv A outer s H E hr=> ?_
 unfold ve
 exact (ah (mP (aH f_ hr (aa (dv 0) (aa (dv 1) af))))
   (ah (aE (i:=2) sc_way.nd rfl (.inl rfl) (aL (PN.of (ao (dv 1) ag))))
   (ah (aE (i:=3) sc_way.nd rfl (.inl rfl) (aL (PN.of (ao (dv 1) ag))))
   (ah (bN (aS ka (dv 2) (dv 3) (bu _)) (ak (aZ (aL (PN.of (uM rfl rfl T.b_list rfl T.b_range (aa (dv 2) (aa (dv 3) af))))))) bi)
   (ak (aZ (aL (PN.of (uN rfl rfl T.b_list rfl T.b_range (aa (aq nh (dv 2) ag) (aa (aq nh (dv 3) ag) (aa (qZ ag) af))))))))))))
noncomputable abbrev rq:Stmt:=top 16
noncomputable abbrev qi:List Str:=["line","trains"]
@[irreducible] noncomputable def qg (K:W.Frag)(CL:Addr):DS→Out:=(ax (ii (mq (hX (kI 1) (c1 (ac 1) ba) (kI 5) sO sO)) bad1 nxt)
  (bJ (aV (sL (ac 1)) [none,some 0] (bw 0) yes (bD (pC (ac 1) (pC (ac 0) pN)) (sW K CL)))))
noncomputable def cR (K:W.Frag)(CL:Addr):List D→Res D:=iG 2 qi (qg K CL)
theorem BW:FnScope qi ["line","trains"] (ai rq):=⟨rfl,rfl,rfl,by decide +kernel,rfl,by decide +kernel,by decide +kernel⟩
theorem hV (T:Txt K mg CL)(S:Sta K mg "ways" rq ["line","trains"])(x7:Cal P w K mg base "way" 3 ["line","train"] (freshSp K 0 (sW K CL))):Cal P w K mg base "ways" 4 ["line","trains"] (freshSp K 0 (cR K CL)):=by
 refine S.cal (k:=3) (r:=0) (F:=qg K CL) BW [] (by decide) rfl fun f cdv A outer s H E hr=> ?_
 unfold qg
 exact (ah (bN (eM (eS gy gy ag (aY T.b_len (dv 1)) (tj T.mT))) (ak cm) bi)
   (ak (aZ (aL (PN.of (PN.pd (ce (j:=0) rfl (aW (N:=["train","line"]) (caps:=[none,some 0]) (ai rq) qi rfl rfl (by decide +kernel)) rfl rfl rfl (bI (dv 1)) (fun _ _ _ _=>bo) (fun _ _ _ _=>(PN.of (aH x7 hr (aa (dv 1) (aa (dv 0) af)) fF))))))))))
noncomputable abbrev iA:Stmt:=top 38
noncomputable abbrev gZ:List Str:=["paths","table","stretch","entries","train","path","entered","minute"]
noncomputable abbrev cJ:List Nat:=[0,0,0,1,0,0,0,0]
@[irreducible] noncomputable def eF (K:W.Frag)(CL:Addr):DS→Out:=(ax (aQ 3 (bZ cJ (i6 pN)))
  (ax (c_ (yA cJ (sE (pC (ac 0) pN))) (dL 4 5) (c_ (yA cJ (sZ (pC (ac 5) (pC (ae (ac 1) (ac 4) aA) pN)))) (dL 6 7) (ii (eY (ae (ac 6) (ac 2) xQ)) (k9 3 (bZ cJ (fK (pC (ac 7) (pC (ac 4) pN))))) nxt)))
  (bJ (rK 1 (c1 (ac 3) cU)))))
noncomputable def bz (K:W.Frag)(CL:Addr):List D→Res D:=iG 3 gZ (eF K CL)
theorem sc_entries_on:FnScope gZ ["paths","table","stretch"] (ai iA):=⟨rfl,rfl,rfl,by decide +kernel,rfl,by decide +kernel,by decide +kernel⟩
theorem dn (T:Txt K mg CL)(S:Sta K mg "entries_on" iA ["paths","table","stretch"]):Cal P w K mg base "entries_on" 1 ["paths","table","stretch"] (freshSp K 0 (bz K CL)):=by
 refine S.cal (k:=0) (r:=0) (F:=eF K CL) sc_entries_on cJ (by decide) rfl fun f cdv A outer s H E hr=> ?_
 unfold eF
 exact (ah (aE (i:=3) sc_entries_on.nd rfl (.inl rfl) (ay (jX af)))
   (ah (dB (j:=4) (k:=5) PassesOwn.leaving rfl sc_entries_on.nd rfl rfl (.inl rfl) (.inl rfl) rfl rfl (eP (eh rfl T.b_enumerate (aa (dv 0) af)))
    (ak (dB (j:=6) (k:=7) PassesOwn.leaving rfl sc_entries_on.nd rfl rfl (.inl rfl) (.inl rfl) rfl rfl (eP (jo rfl T.b_zip (aa (dv 5) (aa (ao (dv 1) (dv 4)) af))))
    (ak (bN (aS (sd hr.units) (dv 6) (dv 2) (bu _)) (ak (jp (j:=3) (n:=0) rfl rfl (.inl rfl) (ay (PN.of (dA (aa (dv 7) (aa (dv 4) af))))))) bi)))))
   (ak (aZ (PZ.zero (eO (zp T.b_sorted (dv 3))))))))
noncomputable abbrev fJ:Stmt:=top 34
noncomputable abbrev eW:List Str:=["paths","table"]
@[irreducible] noncomputable def gR (K:W.Frag)(CL:Addr):DS→Out:=(bJ (ae (aV (sL (ac 1)) [none] (bw 0) yes (c1 (ac 0) ba)) (aV (sL (ac 0)) [none] (bw 0) yes (c1 (ac 0) ba)) xQ))
noncomputable def fw (K:W.Frag)(CL:Addr):List D→Res D:=iG 2 eW (gR K CL)
theorem tO:FnScope eW ["paths","table"] (ai fJ):=⟨rfl,rfl,rfl,by decide +kernel,rfl,by decide +kernel,by decide +kernel⟩
theorem jL (T:Txt K mg CL)(S:Sta K mg "is_whole" fJ ["paths","table"]):Cal P w K mg base "is_whole" 1 ["paths","table"] (freshSp K 0 (fw K CL)):=by
 refine S.cal (k:=0) (r:=0) (F:=gR K CL) tO [] (by decide) rfl fun f cdv A outer s H E hr=> ?_
 unfold gR
 exact (ak (aZ (aL (PN.of (y_ (sd hr.units) (PN.pd (ce (j:=0) rfl (aW (N:=["row"]) (caps:=[none]) (ai fJ) eW rfl rfl (by decide +kernel)) rfl rfl rfl (bI (dv 1)) (fun _ _ _ _=>bo) (fun _ _ _ _=>(PN.of (aY T.b_len (dv 0)))))) (PN.pd (ce (j:=0) rfl (aW (N:=["path"]) (caps:=[none]) (ai fJ) eW rfl rfl (by decide +kernel)) rfl rfl rfl (bI (dv 0)) (fun _ _ _ _=>bo) (fun _ _ _ _=>(PN.of (aY T.b_len (dv 0)))))) (bu _))))))
noncomputable abbrev gl:Stmt:=top 35
noncomputable abbrev fZ:List Str:=["line","trains","paths","table","runs","train","path","soonest","stretch","minute"]
@[irreducible] noncomputable def dU (K:W.Frag)(CL:Addr):DS→Out:=(ax (aQ 4 (gG CL "runs" (ac 0) (d8 CL)))
  (ax (c_ (sE (pC (ac 2) pN)) (dL 5 6) (ax (aQ 7 (ae (ae (ac 1) (ac 5) aA) (kI 2) aA))
  (c_ (sZ (pC (ac 6) (pC (ae (ac 3) (ac 5) aA) pN))) (dL 8 9) (ax (ii (eY (ae (ac 9) (ac 7) sV)) (bJ (kB false)) nxt)
  (aQ 7 (ae (ac 9) (ae (ac 4) (ac 8) aA) aO))))))
  (bJ (kB true))))
noncomputable def cH (K:W.Frag)(CL:Addr):List D→Res D:=iG 4 fZ (dU K CL)
theorem sc_all_in_time:FnScope fZ ["line","trains","paths","table"] (ai gl):=⟨rfl,rfl,rfl,by decide +kernel,rfl,by decide +kernel,by decide +kernel⟩
theorem f9 (T:Txt K mg CL)(S:Sta K mg "all_in_time" gl ["line","trains","paths","table"])(c_runs:CalM P w K mg base CL "runs" 1 (d8 CL)):Cal P w K mg base "all_in_time" 2 ["line","trains","paths","table"] (freshSp K 0 (cH K CL)):=by
 refine S.cal (k:=1) (r:=0) (F:=dU K CL) sc_all_in_time [] (by decide) rfl fun f cdv A outer s H E hr=> ?_
 unfold dU
 exact (ah (aE (i:=4) sc_all_in_time.nd rfl (.inl rfl) (aL (PN.of (l_ c_runs hr (dv 0)))))
   (ah (dB (j:=5) (k:=6) PassesOwn.leaving rfl sc_all_in_time.nd rfl rfl (.inl rfl) (.inl rfl) rfl rfl (jZ (eh rfl T.b_enumerate (aa (dv 2) af)))
    (ah (aE (i:=7) sc_all_in_time.nd rfl (.inl rfl) (aL (PN.of (ao (ao (dv 1) (dv 5)) ag))))
   (ak (dB (j:=8) (k:=9) PassesOwn.leaving rfl sc_all_in_time.nd rfl rfl (.inl rfl) (.inl rfl) rfl rfl (jZ (jo rfl T.b_zip (aa (dv 6) (aa (ao (dv 3) (dv 5)) af))))
    (ah (bN (aS ka (dv 9) (dv 7) (bu _)) (ak (aZ (aL (PN.of fG)))) bi)
   (ak (aE (i:=7) sc_all_in_time.nd rfl (.inl rfl) (aL (PN.of (aq aB (dv 9) (ao (dv 4) (dv 8))))))))))))
   (ak (aZ (aL (PN.of fG))))))
noncomputable abbrev jb:Stmt:=top 36
noncomputable abbrev iQ:List Str:=["line","paths","table","gap","stretch","run","entries","ahead","behind"]
@[irreducible] noncomputable def fN (K:W.Frag)(CL:Addr):DS→Out:=(ax (aQ 3 (gG CL "clear" (ac 0) (ij CL)))
  (ax (c_ (sE (pC (gG CL "runs" (ac 0) (d8 CL)) pN)) (dL 4 5) (ax (aQ 6 (bD (pC (ac 1) (pC (ac 2) (pC (ac 4) pN))) (bz K CL)))
  (c_ (sZ (pC (ac 6) (pC (tT (ac 6) (oI (kI 1)) oN) pN))) (dL 7 8) (ii (eY (ae (ae (ac 8) (kI 0) aA) (ae (ae (ae (ac 7) (kI 0) aA) (ac 5) aO) (ac 3) aO) sV)) (bJ (kB false)) nxt))))
  (bJ (kB true))))
noncomputable def d9 (K:W.Frag)(CL:Addr):List D→Res D:=iG 3 iQ (fN K CL)
theorem sc_all_apart:FnScope iQ ["line","paths","table"] (ai jb):=⟨rfl,rfl,rfl,by decide +kernel,rfl,by decide +kernel,by decide +kernel⟩
theorem iT (T:Txt K mg CL)(S:Sta K mg "all_apart" jb ["line","paths","table"])(dn:Cal P w K mg base "entries_on" 1 ["paths","table","stretch"] (freshSp K 0 (bz K CL)))(c_runs:CalM P w K mg base CL "runs" 1 (d8 CL))(c_clear:CalM P w K mg base CL "clear" 1 (ij CL)):Cal P w K mg base "all_apart" 2 ["line","paths","table"] (freshSp K 0 (d9 K CL)):=by
 refine S.cal (k:=1) (r:=0) (F:=fN K CL) sc_all_apart [] (by decide) rfl fun f cdv A outer s H E hr=> ?_
 unfold fN
 exact (ah (aE (i:=3) sc_all_apart.nd rfl (.inl rfl) (aL (PN.of (l_ c_clear hr (dv 0)))))
   (ah (dB (j:=4) (k:=5) PassesOwn.leaving rfl sc_all_apart.nd rfl rfl (.inl rfl) (.inl rfl) rfl rfl (jZ (eh rfl T.b_enumerate (aa (l_ c_runs hr (dv 0)) af)))
    (ah (aE (i:=6) sc_all_apart.nd rfl (.inl rfl) (aL (PN.of (aH dn hr (aa (dv 1) (aa (dv 2) (aa (dv 4) af)))))))
   (ak (dB (j:=7) (k:=8) PassesOwn.leaving rfl sc_all_apart.nd rfl rfl (.inl rfl) (.inl rfl) rfl rfl (jZ (jo rfl T.b_zip (aa (dv 6) (aa (gH (dv 6) (gJ ag) gI) af))))
    (ak (bN (aS ka (ao (dv 8) ag) (aq aB (aq aB (ao (dv 7) ag) (dv 5)) (dv 3)) (bu _)) (ak (aZ (aL (PN.of fG)))) bi))))))
   (ak (aZ (aL (PN.of fG))))))
noncomputable abbrev rn:Stmt:=top 30
noncomputable abbrev qh:List Str:=["line","trains","table","paths"]
@[irreducible] noncomputable def my (K:W.Frag)(CL:Addr):DS→Out:=(ax (aQ 3 (bD (pC (ac 0) (pC (ac 1) pN)) (cR K CL)))
  (ax (ii (mq (eY (bD (pC (ac 3) (pC (ac 2) pN)) (fw K CL)))) (bJ (kB false)) nxt)
  (bJ (CV (bD (pC (ac 0) (pC (ac 1) (pC (ac 3) (pC (ac 2) pN)))) (cH K CL)) (bD (pC (ac 0) (pC (ac 3) (pC (ac 2) pN))) (d9 K CL))))))
noncomputable def eJ (K:W.Frag)(CL:Addr):List D→Res D:=iG 3 qh (my K CL)
theorem sc_keeps:FnScope qh ["line","trains","table"] (ai rn):=⟨rfl,rfl,rfl,by decide +kernel,rfl,by decide +kernel,by decide +kernel⟩
theorem ji (T:Txt K mg CL)(S:Sta K mg "keeps" rn ["line","trains","table"])(iT:Cal P w K mg base "all_apart" 2 ["line","paths","table"] (freshSp K 0 (d9 K CL)))(f9:Cal P w K mg base "all_in_time" 2 ["line","trains","paths","table"] (freshSp K 0 (cH K CL)))(jL:Cal P w K mg base "is_whole" 1 ["paths","table"] (freshSp K 0 (fw K CL)))(hV:Cal P w K mg base "ways" 4 ["line","trains"] (freshSp K 0 (cR K CL))):Cal P w K mg base "keeps" 5 ["line","trains","table"] (freshSp K 0 (eJ K CL)):=by
 refine S.cal (k:=4) (r:=0) (F:=my K CL) sc_keeps [] (by decide) rfl fun f cdv A outer s H E hr=> ?_
 unfold my
 exact (ah (aE (i:=3) sc_keeps.nd rfl (.inl rfl) (aL (PN.of (aH hV hr (aa (dv 0) (aa (dv 1) af))))))
   (ah (bN (eM (q0 (aH jL hr (aa (dv 3) (aa (dv 2) af))))) (ak (aZ (aL (PN.of fG)))) bi)
   (ak (aZ (aL (PN.of (Ex (aH f9 hr (aa (dv 0) (aa (dv 1) (aa (dv 3) (aa (dv 2) af))))) (Ey (aH iT hr (aa (dv 0) (aa (dv 3) (aa (dv 2) af))))))))))))
noncomputable abbrev gn:Stmt:=top 33
noncomputable abbrev f6:List Str:=["line","trains","table"]
@[irreducible] noncomputable def dX (K:W.Frag)(CL:Addr):DS→Out:=(ii (mq (eY (bD (pC (ac 0) (pC (ac 1) (pC (ac 2) pN))) (eJ K CL)))) bad1 nxt)
noncomputable def bP (K:W.Frag)(CL:Addr):List D→Res D:=iG 3 f6 (dX K CL)
theorem oj:FnScope f6 ["line","trains","table"] (ai gn):=⟨rfl,rfl,rfl,by decide +kernel,rfl,by decide +kernel,by decide +kernel⟩
theorem cG (T:Txt K mg CL)(S:Sta K mg "check_table" gn ["line","trains","table"])(ji:Cal P w K mg base "keeps" 5 ["line","trains","table"] (freshSp K 0 (eJ K CL))):Cal P w K mg base "check_table" 6 ["line","trains","table"] (freshSp K 0 (bP K CL)):=by
 refine S.cal (k:=5) (r:=0) (F:=dX K CL) oj [] (by decide) rfl fun f cdv A outer s H E hr=> ?_
 unfold dX
 exact (ak (bN (eM (q0 (aH ji hr (aa (dv 0) (aa (dv 1) (aa (dv 2) af)))))) (ak cm) bi))
noncomputable abbrev iB:Stmt:=top 37
noncomputable abbrev g0:List Str:=["paths","table","stretch"]
@[irreducible] noncomputable def gS (K:W.Frag)(CL:Addr):DS→Out:=(bJ (aV (sL (bD (pC (ac 0) (pC (ac 1) (pC (ac 2) pN))) (bz K CL))) [none] (bw 0) yes (ae (ac 0) (kI 1) aA)))
noncomputable def fx (K:W.Frag)(CL:Addr):List D→Res D:=iG 3 g0 (gS K CL)
theorem tP:FnScope g0 ["paths","table","stretch"] (ai iB):=⟨rfl,rfl,rfl,by decide +kernel,rfl,by decide +kernel,by decide +kernel⟩
theorem jM (T:Txt K mg CL)(S:Sta K mg "order_on" iB ["paths","table","stretch"])(dn:Cal P w K mg base "entries_on" 1 ["paths","table","stretch"] (freshSp K 0 (bz K CL))):Cal P w K mg base "order_on" 2 ["paths","table","stretch"] (freshSp K 1 (fx K CL)):=by
 refine S.cal (k:=1) (r:=1) (F:=gS K CL) tP [] (by decide) rfl fun f cdv A outer s H E hr=> ?_
 unfold gS
 exact (ak (aZ (aL (ce (j:=0) rfl (aW (N:=["entry"]) (caps:=[none]) (ai iB) g0 rfl rfl (by decide +kernel)) rfl rfl rfl (bI (aH dn hr (aa (dv 0) (aa (dv 1) (aa (dv 2) af))))) (fun _ _ _ _=>bo) (fun _ _ _ _=>(PN.of (ao (dv 0) ag)))))))
noncomputable abbrev fX:Stmt:=top 31
noncomputable abbrev fP:List Str:=["line","trains","table","paths"]
@[irreducible] noncomputable def fO (K:W.Frag)(CL:Addr):DS→Out:=(ax (pq (bD (pC (ac 0) (pC (ac 1) (pC (ac 2) pN))) (bP K CL)))
  (ax (aQ 3 (bD (pC (ac 0) (pC (ac 1) pN)) (cR K CL)))
  (bJ (aV (sR1 (pC (c1 (gG CL "runs" (ac 0) (d8 CL)) ba) pN)) [none,some 3,some 2] (bw 0) yes (bD (pC (ac 1) (pC (ac 2) (pC (ac 0) pN))) (fx K CL))))))
noncomputable def cX (K:W.Frag)(CL:Addr):List D→Res D:=iG 3 fP (fO K CL)
theorem sc_orders_of:FnScope fP ["line","trains","table"] (ai fX):=⟨rfl,rfl,rfl,by decide +kernel,rfl,by decide +kernel,by decide +kernel⟩
theorem fS (T:Txt K mg CL)(S:Sta K mg "orders_of" fX ["line","trains","table"])(cG:Cal P w K mg base "check_table" 6 ["line","trains","table"] (freshSp K 0 (bP K CL)))(jM:Cal P w K mg base "order_on" 2 ["paths","table","stretch"] (freshSp K 1 (fx K CL)))(hV:Cal P w K mg base "ways" 4 ["line","trains"] (freshSp K 0 (cR K CL)))(c_runs:CalM P w K mg base CL "runs" 1 (d8 CL)):Cal P w K mg base "orders_of" 7 ["line","trains","table"] (freshSp K 2 (cX K CL)):=by
 refine S.cal (k:=6) (r:=2) (F:=fO K CL) sc_orders_of [] (by decide) rfl fun f cdv A outer s H E hr=> ?_
 unfold fO
 exact (ah (mP (aH cG hr (aa (dv 0) (aa (dv 1) (aa (dv 2) af)))))
   (ah (aE (i:=3) sc_orders_of.nd rfl (.inr rfl) (aL (PN.of (aH hV hr (aa (dv 0) (aa (dv 1) af))))))
   (ak (aZ (aL (ce (j:=0) rfl (aW (N:=["stretch","paths","table"]) (caps:=[none,some 3,some 2]) (ai fX) fP rfl rfl (by decide +kernel)) rfl rfl rfl (jW rfl T.b_range (aa (aY T.b_len (l_ c_runs hr (dv 0))) af)) (fun _ _ _ _=>bo) (fun _ _ _ _=>(nZ (n:=1) jM hr (aa (dv 1) (aa (dv 2) (aa (dv 0) af))) fF))))))))
noncomputable abbrev dG:Stmt:=top 32
noncomputable abbrev dk:List Str:=["line","trains","table","runs"]
@[irreducible] noncomputable def de (K:W.Frag)(CL:Addr):DS→Out:=(ax (pq (bD (pC (ac 0) (pC (ac 1) (pC (ac 2) pN))) (bP K CL)))
  (ax (aQ 3 (gG CL "runs" (ac 0) (d8 CL)))
  (bJ (c1 (aV (sZ (pC (bD (pC (ac 0) (pC (ac 1) pN)) (cR K CL)) (pC (ac 2) pN))) [none,none,some 3] (dL 0 1) yes (ae (ae (ac 1) (nG (kI 1)) aA) (ae (ac 2) (ae (ac 0) (nG (kI 1)) aA) aA) aO)) mn))))
noncomputable def bT (K:W.Frag)(CL:Addr):List D→Res D:=iG 3 dk (de K CL)
theorem sc_last_arrival:FnScope dk ["line","trains","table"] (ai dG):=⟨rfl,rfl,rfl,by decide +kernel,rfl,by decide +kernel,by decide +kernel⟩
theorem dq (T:Txt K mg CL)(S:Sta K mg "last_arrival" dG ["line","trains","table"])(cG:Cal P w K mg base "check_table" 6 ["line","trains","table"] (freshSp K 0 (bP K CL)))(hV:Cal P w K mg base "ways" 4 ["line","trains"] (freshSp K 0 (cR K CL)))(c_runs:CalM P w K mg base CL "runs" 1 (d8 CL)):Cal P w K mg base "last_arrival" 7 ["line","trains","table"] (freshSp K 0 (bT K CL)):=by
 refine S.cal (k:=6) (r:=0) (F:=de K CL) sc_last_arrival [] (by decide) rfl fun f cdv A outer s H E hr=> ?_
 unfold de
 exact (ah (mP (aH cG hr (aa (dv 0) (aa (dv 1) (aa (dv 2) af)))))
   (ah (aE (i:=3) sc_last_arrival.nd rfl (.inr rfl) (aL (PN.of (l_ c_runs hr (dv 0)))))
   (ak (aZ (aL (PN.of (vU T.b_max (PN.pd (tz (j:=0) (l:=1) rfl (aW (N:=["path","row","runs"]) (caps:=[none,none,some 3]) (ai dG) dk rfl rfl (by decide +kernel)) rfl rfl rfl rfl rfl rfl (jo rfl T.b_zip (aa (aH hV hr (aa (dv 0) (aa (dv 1) af))) (aa (dv 2) af))) (fun _ _ _ _=>bo) (fun _ _ _ _=>(PN.of (aq aB (ao (dv 1) (qZ ag)) (ao (dv 2) (ao (dv 0) (qZ ag)))))))))))))))
noncomputable abbrev dF:Stmt:=top 19
noncomputable abbrev dh:List Str:=["stretches","paths","orders","stretch","order","going"]
@[irreducible] noncomputable def dc (K:W.Frag)(CL:Addr):DS→Out:=(ax (ii (eY (ae (c1 (ac 2) ba) (ac 0) uJ)) bad1 nxt)
  (c_ (sE (pC (ac 2) pN)) (dL 3 4) (ax (aQ 5 (aV (sE (pC (ac 1) pN)) [none,none,some 3] (dL 0 1) (eY (ae (ac 2) (ac 1) (uc false))) (ac 0)))
  (ii (eY (ae (c1 (ac 4) lM) (ac 5) uJ)) bad1 nxt))))
noncomputable def bS (K:W.Frag)(CL:Addr):List D→Res D:=iG 3 dh (dc K CL)
theorem sc_check_orders:FnScope dh ["stretches","paths","orders"] (ai dF):=⟨rfl,rfl,rfl,by decide +kernel,rfl,by decide +kernel,by decide +kernel⟩
theorem e_ (T:Txt K mg CL)(S:Sta K mg "check_orders" dF ["stretches","paths","orders"]):Cal P w K mg base "check_orders" 1 ["stretches","paths","orders"] (freshSp K 0 (bS K CL)):=by
 refine S.cal (k:=0) (r:=0) (F:=dc K CL) sc_check_orders [] (by decide) rfl fun f cdv A outer s H E hr=> ?_
 unfold dc
 exact (ah (bN (aS (ng hr.units) (aY T.b_len (dv 2)) (dv 0) (bu _)) (ak cm) bi)
   (ak (dB (j:=3) (k:=4) PassesOwn.leaving rfl sc_check_orders.nd rfl rfl (.inr rfl) (.inl rfl) rfl rfl (jZ (eh rfl T.b_enumerate (aa (dv 2) af)))
    (ah (CD (zr sc_check_orders.nd (i:=5) rfl rfl rfl (aW (N:=["train","path","stretch"]) (caps:=[none,none,some 3]) (ai dF) dh rfl rfl (by decide +kernel)) (j:=0) (l:=1) rfl rfl rfl rfl rfl rfl (eh rfl T.b_enumerate (aa (dv 1) af)) (fun _ _ _ _=>nV (aS (FA hr.units) (dv 2) (dv 1) (by rfl))) (fun _ _ _ _=>(PN.of (dv 0)))) rfl)
   (ak (bN (aS (ng hr.units) (zo T.b_sorted (dv 4)) (dv 5) (bu _)) (ak cm) bi))))))
noncomputable abbrev jY:Stmt:=top 18
noncomputable abbrev jI:List Str:=["line","paths","orders","runs","gap","waits","train","path","stretch","ahead","behind","order"]
noncomputable abbrev bm:List Nat:=[0,0,0,0,0,2,0,0,0,0,0,0]
@[irreducible] noncomputable def gW (K:W.Frag)(CL:Addr):DS→Out:=(ax (aQ 3 (bZ bm (gG CL "runs" (ac 0) (d8 CL))))
  (ax (aQ 4 (bZ bm (gG CL "clear" (ac 0) (ij CL))))
  (ax (pq (bD (pC (c1 (ac 3) ba) (pC (ac 1) (pC (ac 2) pN))) (bS K CL)))
  (ax (aQ 5 (bZ bm (fun _=>Res.ok (.dct [] []))))
  (ax (c_ (yA bm (sE (pC (ac 1) pN))) (dL 6 7) (ax (c_ (yA bm (sL (ac 7))) (bw 8) (ke 5 (fK (pC (ac 6) (pC (ac 8) pN))) (bZ bm (i6 pN))))
  (c_ (yA bm (sZ (pC (ac 7) (pC (tT (ac 7) (oI (kI 1)) oN) pN)))) (dL 9 10) (qn 5 1 (Ae 5 0 (wB 5) (fK (pC (ac 6) (pC (ac 10) pN)))) (bZ bm (fK (pC (fK (pC (ac 6) (pC (ac 9) pN))) (pC (ae (ac 3) (ac 9) aA) pN))))))))
  (ax (c_ (yA bm (sE (pC (ac 2) pN))) (dL 8 11) (c_ (yA bm (sZ (pC (ac 11) (pC (tT (ac 11) (oI (kI 1)) oN) pN)))) (dL 9 10) (qn 5 1 (Ae 5 0 (wB 5) (fK (pC (ac 10) (pC (ac 8) pN)))) (bZ bm (fK (pC (fK (pC (ac 9) (pC (ac 8) pN))) (pC (ae (ae (ac 3) (ac 8) aA) (ac 4) aO) pN)))))))
  (bJ (ac 5))))))))
noncomputable def fz (K:W.Frag)(CL:Addr):List D→Res D:=iG 3 jI (gW K CL)
theorem sc_waits_of:FnScope jI ["line","paths","orders"] (ai jY):=⟨rfl,rfl,rfl,by decide +kernel,rfl,by decide +kernel,by decide +kernel⟩
theorem jO (T:Txt K mg CL)(S:Sta K mg "waits_of" jY ["line","paths","orders"])(e_:Cal P w K mg base "check_orders" 1 ["stretches","paths","orders"] (freshSp K 0 (bS K CL)))(c_runs:CalM P w K mg base CL "runs" 1 (d8 CL))(c_clear:CalM P w K mg base CL "clear" 1 (ij CL)):Cal P w K mg base "waits_of" 2 ["line","paths","orders"] (freshSp K 2 (fz K CL)):=by
 refine S.cal (k:=1) (r:=2) (F:=gW K CL) sc_waits_of bm (by decide) rfl fun f cdv A outer s H E hr=> ?_
 unfold gW
 exact (ah (aE (i:=3) sc_waits_of.nd rfl (.inl rfl) (ay (PN.of (l_ c_runs hr (dv 0)))))
   (ah (aE (i:=4) sc_waits_of.nd rfl (.inl rfl) (ay (PN.of (l_ c_clear hr (dv 0)))))
   (ah (mP (aH e_ hr (aa (aY T.b_len (dv 3)) (aa (dv 1) (aa (dv 2) af)))))
   (ah (aE (i:=5) sc_waits_of.nd rfl (.inl rfl) (ay wd))
   (ah (dB (j:=6) (k:=7) PassesOwn.leaving rfl sc_waits_of.nd rfl rfl (.inl rfl) (.inl rfl) rfl rfl (eP (eh rfl T.b_enumerate (aa (dv 1) af)))
    (ah (cv (j:=8) PassesOwn.leaving rfl sc_waits_of.nd rfl (.inl rfl) rfl (eP (bI (dv 7)))
    (ak (v_ (j:=5) (n:=1) hr.units rfl rfl (.inl rfl) (dA (aa (dv 6) (aa (dv 8) af))) (ay (jX af)))))
   (ak (dB (j:=9) (k:=10) PassesOwn.leaving rfl sc_waits_of.nd rfl rfl (.inl rfl) (.inl rfl) rfl rfl (eP (jo rfl T.b_zip (aa (dv 7) (aa (gH (dv 7) (gJ ag) gI) af))))
    (ak (v9 (n:=1) (m:=0) rfl (Co (n:=0) (m:=1) hr.units rfl (uh (j:=5) rfl (.inl rfl)) (dA (aa (dv 6) (aa (dv 10) af)))) (ay (PN.of (dA (aa (dA (aa (dv 6) (aa (dv 9) af))) (aa (ao (dv 3) (dv 9)) af))))) (y4 (qW (l7 (qW (l7 gk (l7 gk vQ))) (l7 (y6 gk gk uz) vQ))))))))))
   (ah (dB (j:=8) (k:=11) PassesOwn.leaving rfl sc_waits_of.nd rfl rfl (.inl rfl) (.inl rfl) rfl rfl (eP (eh rfl T.b_enumerate (aa (dv 2) af)))
    (ak (dB (j:=9) (k:=10) PassesOwn.leaving rfl sc_waits_of.nd rfl rfl (.inl rfl) (.inl rfl) rfl rfl (eP (jo rfl T.b_zip (aa (dv 11) (aa (gH (dv 11) (gJ ag) gI) af))))
    (ak (v9 (n:=1) (m:=0) rfl (Co (n:=0) (m:=1) hr.units rfl (uh (j:=5) rfl (.inl rfl)) (dA (aa (dv 10) (aa (dv 8) af)))) (ay (PN.of (dA (aa (dA (aa (dv 9) (aa (dv 8) af))) (aa (aq aB (ao (dv 3) (dv 8)) (dv 4)) af))))) (y4 (qW (l7 (qW (l7 gk (l7 gk vQ))) (l7 (y6 (y6 gk gk uz) gk Aa) vQ)))))))))
   (ak (kJ (i:=5) rfl rfl (.inl rfl)))))))))
noncomputable abbrev js:Stmt:=top 22
noncomputable abbrev jh:List Str:=["waits","turn","visit"]
@[irreducible] noncomputable def jf (K:W.Frag)(CL:Addr):DS→Out:=(bJ (aV (sL (ae (ac 0) (ac 2) cA)) [none,some 1] (bw 0) (eY (ae (ae (ac 0) (kI 0) aA) (ac 1) (uc true))) (ae (ac 0) (kI 0) aA)))
noncomputable def eQ (K:W.Frag)(CL:Addr):List D→Res D:=iG 3 jh (jf K CL)
theorem uX:FnScope jh ["waits","turn","visit"] (ai js):=⟨rfl,rfl,rfl,by decide +kernel,rfl,by decide +kernel,by decide +kernel⟩
theorem k_ (T:Txt K mg CL)(S:Sta K mg "held_by" js ["waits","turn","visit"]):Cal P w K mg base "held_by" 1 ["waits","turn","visit"] (freshSp K 1 (eQ K CL)):=by
 refine S.cal (k:=0) (r:=1) (F:=jf K CL) uX [] (by decide) rfl fun f cdv A outer s H E hr=> ?_
 unfold jf
 exact (ak (aZ (aL (ce (j:=0) rfl (aW (N:=["wait","turn"]) (caps:=[none,some 1]) (ai js) jh rfl rfl (by decide +kernel)) rfl rfl rfl (bI (mM hr.units (dv 0) (dv 2))) (fun _ _ _ _=>nV (aS (se hr.units) (ao (dv 0) ag) (dv 1) (by rfl))) (fun _ _ _ _=>(PN.of (ao (dv 0) ag)))))))
noncomputable abbrev mQ:Stmt:=top 21
noncomputable abbrev mz:List Str:=["waits","turn"]
@[irreducible] noncomputable def mx (K:W.Frag)(CL:Addr):DS→Out:=(bJ (aV (sD (ac 0)) [none,some 1,some 0] (bw 0) (wA (eY (ae (ac 0) (ac 1) (uc true))) (mq (tR (bD (pC (ac 2) (pC (ac 1) (pC (ac 0) pN))) (eQ K CL))))) (ac 0)))
noncomputable def fU (K:W.Frag)(CL:Addr):List D→Res D:=iG 2 mz (mx K CL)
theorem zH:FnScope mz ["waits","turn"] (ai mQ):=⟨rfl,rfl,rfl,by decide +kernel,rfl,by decide +kernel,by decide +kernel⟩
theorem mF (T:Txt K mg CL)(S:Sta K mg "freed" mQ ["waits","turn"])(k_:Cal P w K mg base "held_by" 1 ["waits","turn","visit"] (freshSp K 1 (eQ K CL))):Cal P w K mg base "freed" 2 ["waits","turn"] (freshSp K 1 (fU K CL)):=by
 refine S.cal (k:=1) (r:=1) (F:=mx K CL) zH [] (by decide) rfl fun f cdv A outer s H E hr=> ?_
 unfold mx
 exact (ak (aZ (aL (ce (j:=0) rfl (aW (N:=["visit","turn","waits"]) (caps:=[none,some 1,some 0]) (ai mQ) mz rfl rfl (by decide +kernel)) rfl rfl rfl (zl (dv 0)) (fun _ _ _ _=>nV (PDW.pt (vW (aS (se hr.units) (dv 0) (dv 1) (by rfl)) (tq (eM (vV (aH k_ hr (aa (dv 2) (aa (dv 1) (aa (dv 0) af))) fF))))))) (fun _ _ _ _=>(PN.of (dv 0)))))))
noncomputable abbrev lJ:Stmt:=top 20
noncomputable abbrev k8:List Str:=["waits","turn","free"]
noncomputable abbrev fA:List Nat:=[0,1,0]
@[irreducible] noncomputable def jg (K:W.Frag)(CL:Addr):DS→Out:=(ax (aQ 1 (bZ fA (i6 pN)))
  (ax (aQ 2 (rK 1 (bD (pC (ac 0) (pC (ac 1) pN)) (fU K CL))))
  (ax (cE (tR (ac 2)) (ax (qF 1 0 (wB 1) (bZ fA (ac 2)))
  (aQ 2 (rK 1 (bD (pC (ac 0) (pC (ac 1) pN)) (fU K CL))))) 40)
  (bJ (ac 1)))))
noncomputable def gC (K:W.Frag)(CL:Addr):List D→Res D:=iG 1 k8 (jg K CL)
theorem sc_in_turn:FnScope k8 ["waits"] (ai lJ):=⟨rfl,rfl,rfl,by decide +kernel,rfl,by decide +kernel,by decide +kernel⟩
theorem la (T:Txt K mg CL)(S:Sta K mg "in_turn" lJ ["waits"])(mF:Cal P w K mg base "freed" 2 ["waits","turn"] (freshSp K 1 (fU K CL))):Cal P w K mg base "in_turn" 3 ["waits"] (freshSp K 1 (gC K CL)):=by
 refine S.cal (k:=2) (r:=1) (F:=jg K CL) sc_in_turn fA (by decide) rfl fun f cdv A outer s H E hr=> ?_
 unfold jg
 exact (ah (aE (i:=1) sc_in_turn.nd rfl (.inl rfl) (ay (jX af)))
   (ah (aE (i:=2) sc_in_turn.nd rfl (.inl rfl) (PZ.zero (eO (nZ (n:=1) mF hr (aa (dv 0) (aa (dv 1) af))))))
   (ah (tw 40 PassesOwn.leaving (vV (dv 2)) (ah (BJ (n:=0) rfl (uh (j:=1) rfl (.inl rfl)) (ay (PN.of (dv 2))) (y4 gk))
   (ak (aE (i:=2) sc_in_turn.nd rfl (.inl rfl) (PZ.zero (eO (nZ (n:=1) mF hr (aa (dv 0) (aa (dv 1) af)))))))))
   (ak (kJ (i:=1) rfl rfl (.inl rfl))))))
noncomputable abbrev dH:Stmt:=top 26
noncomputable abbrev dl:List Str:=["trains","waits","turn","enters","visit","ready"]
noncomputable abbrev cO:List Nat:=[0,0,0,1,0,0]
@[irreducible] noncomputable def df (K:W.Frag)(CL:Addr):DS→Out:=(ax (aQ 3 (bZ cO (fun _=>Res.ok (.dct [] []))))
  (ax (c_ (yA cO (sL (ac 2))) (bw 4) (ax (aQ 5 (bZ cO (ae (ae (ac 0) (ae (ac 4) (kI 0) aA) aA) (kI 2) aA)))
  (ke 3 (ac 4) (rK 0 (c1 (ae (i6 (pC (ac 5) pN)) (aV (sL (ae (ac 1) (ac 4) cA)) [none,some 3] (bw 0) yes (ae (ae (ac 1) (ae (ac 0) (kI 0) aA) cA) (ae (ac 0) (kI 1) aA) aO)) aO) mn)))))
  (bJ (ac 3))))
noncomputable def ck (K:W.Frag)(CL:Addr):List D→Res D:=iG 3 dl (df K CL)
theorem sc_least_enters:FnScope dl ["trains","waits","turn"] (ai dH):=⟨rfl,rfl,rfl,by decide +kernel,rfl,by decide +kernel,by decide +kernel⟩
theorem ff (T:Txt K mg CL)(S:Sta K mg "least_enters" dH ["trains","waits","turn"]):Cal P w K mg base "least_enters" 1 ["trains","waits","turn"] (freshSp K 1 (ck K CL)):=by
 refine S.cal (k:=0) (r:=1) (F:=df K CL) sc_least_enters cO (by decide) rfl fun f cdv A outer s H E hr=> ?_
 unfold df
 exact (ah (aE (i:=3) sc_least_enters.nd rfl (.inr rfl) (ay wd))
   (ah (cv (j:=4) PassesOwn.leaving rfl sc_least_enters.nd rfl (.inl rfl) rfl (eP (bI (dv 2)))
    (ah (aE (i:=5) sc_least_enters.nd rfl (.inl rfl) (ay (PN.of (ao (ao (dv 0) (ao (dv 4) ag)) ag))))
   (ak (v_ (j:=3) (n:=0) hr.units rfl rfl (.inr (.inl rfl)) (dv 4) (eO (PN.of (vU T.b_max (aq aB (uO (aa (dv 5) af)) (PN.pd (ce (j:=0) rfl (aW (N:=["wait","enters"]) (caps:=[none,some 3]) (ai dH) dl rfl rfl (by decide +kernel)) rfl rfl rfl (bI (mM hr.units (dv 1) (dv 4))) (fun _ _ _ _=>bo) (fun _ _ _ _=>(PN.of (aq aB (mM hr.units (dv 1) (ao (dv 0) ag)) (ao (dv 0) ag))))))))))))))
   (ak (kJ (i:=3) rfl rfl (.inr (.inl rfl))))))
noncomputable abbrev kT:Stmt:=top 28
noncomputable abbrev j4:List Str:=["train","path","enters"]
@[irreducible] noncomputable def j3 (K:W.Frag)(CL:Addr):DS→Out:=(bJ (aV (sL (ac 1)) [none,some 2,some 0] (bw 0) yes (ae (ac 1) (fK (pC (ac 2) (pC (ac 0) pN))) cA)))
noncomputable def gE (K:W.Frag)(CL:Addr):List D→Res D:=iG 3 j4 (j3 K CL)
theorem xE:FnScope j4 ["train","path","enters"] (ai kT):=⟨rfl,rfl,rfl,by decide +kernel,rfl,by decide +kernel,by decide +kernel⟩
theorem m5 (T:Txt K mg CL)(S:Sta K mg "row_of" kT ["train","path","enters"]):Cal P w K mg base "row_of" 1 ["train","path","enters"] (freshSp K 1 (gE K CL)):=by
 refine S.cal (k:=0) (r:=1) (F:=j3 K CL) xE [] (by decide) rfl fun f cdv A outer s H E hr=> ?_
 unfold j3
 exact (ak (aZ (aL (ce (j:=0) rfl (aW (N:=["stretch","enters","train"]) (caps:=[none,some 2,some 0]) (ai kT) j4 rfl rfl (by decide +kernel)) rfl rfl rfl (bI (dv 1)) (fun _ _ _ _=>bo) (fun _ _ _ _=>(PN.of (mM hr.units (dv 1) (dA (aa (dv 2) (aa (dv 0) af))))))))))
noncomputable abbrev iC:Stmt:=top 27
noncomputable abbrev g_:List Str:=["paths","enters"]
@[irreducible] noncomputable def gU (K:W.Frag)(CL:Addr):DS→Out:=(bJ (aV (sE (pC (ac 0) pN)) [none,none,some 1] (dL 0 1) yes (bD (pC (ac 0) (pC (ac 1) (pC (ac 2) pN))) (gE K CL))))
noncomputable def fy (K:W.Frag)(CL:Addr):List D→Res D:=iG 2 g_ (gU K CL)
theorem tQ:FnScope g_ ["paths","enters"] (ai iC):=⟨rfl,rfl,rfl,by decide +kernel,rfl,by decide +kernel,by decide +kernel⟩
theorem jN (T:Txt K mg CL)(S:Sta K mg "table_of" iC ["paths","enters"])(m5:Cal P w K mg base "row_of" 1 ["train","path","enters"] (freshSp K 1 (gE K CL))):Cal P w K mg base "table_of" 2 ["paths","enters"] (freshSp K 2 (fy K CL)):=by
 refine S.cal (k:=1) (r:=2) (F:=gU K CL) tQ [] (by decide) rfl fun f cdv A outer s H E hr=> ?_
 unfold gU
 exact (ak (aZ (aL (tz (j:=0) (l:=1) rfl (aW (N:=["train","path","enters"]) (caps:=[none,none,some 1]) (ai iC) g_ rfl rfl (by decide +kernel)) rfl rfl rfl rfl rfl rfl (eh rfl T.b_enumerate (aa (dv 0) af)) (fun _ _ _ _=>bo) (fun _ _ _ _=>(nZ (n:=1) m5 hr (aa (dv 0) (aa (dv 1) (aa (dv 2) af))) fF))))))
noncomputable abbrev gr:Stmt:=top 25
noncomputable abbrev f8:List Str:=["line","trains","orders","paths","waits","turn"]
@[irreducible] noncomputable def dZ (K:W.Frag)(CL:Addr):DS→Out:=(ax (aQ 3 (bD (pC (ac 0) (pC (ac 1) pN)) (cR K CL)))
  (ax (aQ 4 (HC (bD (pC (ac 0) (pC (ac 3) (pC (ac 2) pN))) (fz K CL))))
  (ax (aQ 5 (bD (pC (ac 4) pN) (gC K CL)))
  (ax (ii (eY (ae (c1 (ac 5) ba) (c1 (ac 4) yR) sV)) bad1 nxt)
  (bJ (fK (pC (kS (Str.ofString "table")) (pC (bD (pC (ac 3) (pC (HC (bD (pC (ac 1) (pC (ac 4) (pC (ac 5) pN))) (ck K CL))) pN)) (fy K CL)) pN))))))))
noncomputable def cI (K:W.Frag)(CL:Addr):List D→Res D:=iG 3 f8 (dZ K CL)
theorem sc_least_table:FnScope f8 ["line","trains","orders"] (ai gr):=⟨rfl,rfl,rfl,by decide +kernel,rfl,by decide +kernel,by decide +kernel⟩
theorem gb (T:Txt K mg CL)(S:Sta K mg "least_table" gr ["line","trains","orders"])(la:Cal P w K mg base "in_turn" 3 ["waits"] (freshSp K 1 (gC K CL)))(ff:Cal P w K mg base "least_enters" 1 ["trains","waits","turn"] (freshSp K 1 (ck K CL)))(jN:Cal P w K mg base "table_of" 2 ["paths","enters"] (freshSp K 2 (fy K CL)))(jO:Cal P w K mg base "waits_of" 2 ["line","paths","orders"] (freshSp K 2 (fz K CL)))(hV:Cal P w K mg base "ways" 4 ["line","trains"] (freshSp K 0 (cR K CL))):Cal P w K mg base "least_table" 5 ["line","trains","orders"] (freshSp K 0 (cI K CL)):=by
 refine S.cal (k:=4) (r:=0) (F:=dZ K CL) sc_least_table [] (by decide) rfl fun f cdv A outer s H E hr=> ?_
 unfold dZ
 exact (ah (aE (i:=3) sc_least_table.nd rfl (.inl rfl) (aL (PN.of (aH hV hr (aa (dv 0) (aa (dv 1) af))))))
   (ah (aE (i:=4) sc_least_table.nd rfl (.inl rfl) (aL (PN.of (PN.pdF (nZ (n:=2) jO hr (aa (dv 0) (aa (dv 3) (aa (dv 2) af))))))))
   (ah (aE (i:=5) sc_least_table.nd rfl (.inl rfl) (aL (PN.of (aH la hr (aa (dv 4) af)))))
   (ah (bN (aS ka (aY T.b_len (dv 5)) (Bs T.b_len (dv 4)) (bu _)) xC bi)
   (ak (aZ (aL (PN.of (dA (aa zd (aa (aH jN hr (aa (dv 3) (aa (PN.pdF (nZ (n:=1) ff hr (aa (dv 1) (aa (dv 4) (aa (dv 5) af))))) af))) af)))))))))))
noncomputable abbrev kQ:Stmt:=top 48
noncomputable abbrev rN:List Str:=["script","made","trains","table","lap","k","at","more","other","line","orders","told"]
noncomputable abbrev bc:List Nat:=[0,0,0,0,0,0,0,0,1,0,0,0]
@[irreducible] noncomputable def vd (K:W.Frag)(CL:Addr):DS→Out:=(ax (aQ 1 (bZ bc (bD (pC (ac 0) (pC (kI 0) pN)) (cj K CL))))
  (ax (aQ 2 (bZ bc (bD (pC (ac 0) (pC (kI 20) (pC (c1 (ae (ac 1) (kI 0) aA) ba) (pC (kI 5) pN)))) (bG K CL))))
  (ax (aQ 3 (bZ bc (bD (pC (ae (ac 1) (kI 0) aA) (pC (ae (ac 1) (kI 1) aA) (pC (ac 2) pN))) (bM K CL))))
  (ax (c_ (sR1 (pC (kI 4) pN)) (bw 4) (ax (aQ 5 (bZ bc (bD (pC (ac 0) (pC (ae (kI 100) (ae (kI 3) (ac 4) dR) aO) (pC (c1 (ac 3) ba) pN))) (am K CL))))
  (ax (aQ 6 (bZ bc (bD (pC (ac 0) (pC (ae (kI 101) (ae (kI 3) (ac 4) dR) aO) (pC (c1 (ae (ac 3) (ac 5) aA) ba) pN))) (am K CL))))
  (ax (aQ 7 (bZ bc (bD (pC (ac 0) (pC (ae (kI 102) (ae (kI 3) (ac 4) dR) aO) (pC (kI 60) pN))) (am K CL))))
  (ax (aQ 8 (bZ bc (aV (sL (ac 3)) [none] (bw 0) yes (c1 (ac 0) gB))))
  (ax (lK 8 (ac 5) (bZ bc (ae (tT (ae (ac 3) (ac 5) aA) oN (oI (ac 6))) (aV (sL (tT (ae (ac 3) (ac 5) aA) (oI (ac 6)) oN)) [none,some 7] (bw 0) yes (ae (ac 0) (ac 1) aO)) aO)))
  (ii (eY (bD (pC (ae (ac 1) (kI 0) aA) (pC (ae (ac 1) (kI 1) aA) (pC (ac 2) (pC (ac 8) pN)))) (cW K CL))) (wW 3 8) nxt)))))))
  (ax (aQ 9 (bZ bc (bD (pC (ae (ac 1) (kI 0) aA) (pC (ae (ac 1) (kI 1) aA) pN)) (jF K CL))))
  (ax (ii (eY (ae (bD (pC (ac 9) (pC (ac 2) (pC (ac 3) pN))) (eJ K CL)) (kB true) tf)) (bJ (bZ bc (kB false))) nxt)
  (ax (aQ 10 (bZ bc (bD (pC (ac 9) (pC (ac 2) (pC (ac 3) pN))) (cX K CL))))
  (ax (aQ 11 (bZ bc (bD (pC (ac 9) (pC (ac 2) (pC (ac 10) pN))) (cI K CL))))
  (ax (ii (Hn (eY (ae (ae (ac 11) (kI 0) aA) (kS (Str.ofString "table")) uJ)) (Hn (eY (ae (bD (pC (ac 9) (pC (ac 2) (pC (ae (ac 11) (kI 1) aA) pN))) (eJ K CL)) (kB true) tf)) (eY (ae (bD (pC (ac 9) (pC (ac 2) (pC (ae (ac 11) (kI 1) aA) pN))) (cX K CL)) (ac 10) uJ)))) (bJ (bZ bc (kB false))) nxt)
  (ax (c_ (sR1 (pC (c1 (ac 2) ba) pN)) (bw 5) (c_ (sR1 (pC (c1 (ae (ac 3) (ac 5) aA) ba) pN)) (bw 6) (ii (eY (ae (ae (ae (ae (ac 11) (kI 1) aA) (ac 5) aA) (ac 6) aA) (ae (ae (ac 3) (ac 5) aA) (ac 6) aA) Hk)) (bJ (bZ bc (kB false))) nxt)))
  (bJ (bZ bc (ae (bD (pC (ac 9) (pC (ac 2) (pC (ae (ac 11) (kI 1) aA) pN))) (bT K CL)) (bD (pC (ac 9) (pC (ac 2) (pC (ac 3) pN))) (bT K CL)) sO)))))))))))))
noncomputable def yT (K:W.Frag)(CL:Addr):List D→Res D:=iG 1 rN (vd K CL)
theorem sc_law:FnScope rN ["script"] (ai kQ):=⟨rfl,rfl,rfl,by decide +kernel,rfl,by decide +kernel,by decide +kernel⟩
theorem Fy {f:Addr}{fd:FuncData}(T:Txt K mg CL)(Fn:Fun K "law" "law" kQ f fd)(aI:Cal P w K mg base "_law_drawn" 1 ["script","k","many"] (freshSp K 0 (am K CL)))(dm:Cal P w K mg base "_law_first_come" 2 ["runs","gap","trains"] (freshSp K 2 (bM K CL)))(iS:Cal P w K mg base "_law_kept" 2 ["runs","gap","trains","table"] (freshSp K 0 (cW K CL)))(eZ:Cal P w K mg base "_law_line_by" 2 ["script","base"] (freshSp K 0 (cj K CL)))(dM:Cal P w K mg base "_law_trains_by" 2 ["script","base","stretches","most"] (freshSp K 1 (bG K CL)))(ji:Cal P w K mg base "keeps" 5 ["line","trains","table"] (freshSp K 0 (eJ K CL)))(dq:Cal P w K mg base "last_arrival" 7 ["line","trains","table"] (freshSp K 0 (bT K CL)))(gb:Cal P w K mg base "least_table" 5 ["line","trains","orders"] (freshSp K 0 (cI K CL)))(fS:Cal P w K mg base "orders_of" 7 ["line","trains","table"] (freshSp K 2 (cX K CL)))(c_Line:CalI P w K mg base "Line" CL 2 ["self","runs","clear"] (jF K CL)):FnOk P w K mg base (CXF P w) 8 f fd ["script"] (freshSp K 0 (yT K CL)):=by
 refine Fn.freshM (k:=7) (r:=0) (F:=vd K CL) sc_law bc (by decide) rfl fun cdv A outer s H E g=> ?_
 unfold vd
 exact (ah (aE (i:=1) sc_law.nd rfl (.inl rfl) (ay (PN.of (aH eZ g (aa (dv 0) (aa ag af))))))
   (ah (aE (i:=2) sc_law.nd rfl (.inl rfl) (ay (PN.of (aH dM g (aa (dv 0) (aa ag (aa (aY T.b_len (ao (dv 1) ag)) (aa ag af))))))))
   (ah (aE (i:=3) sc_law.nd rfl (.inl rfl) (ay (PN.of (aH dm g (aa (ao (dv 1) ag) (aa (ao (dv 1) ag) (aa (dv 2) af)))))))
   (ah (cv (j:=4) PassesOwn.leaving rfl sc_law.nd rfl (.inl rfl) rfl (cz rfl T.b_range (aa ag af))
    (ah (aE (i:=5) sc_law.nd rfl (.inl rfl) (ay (PN.of (aH aI g (aa (dv 0) (aa (aq aB ag (aq cc ag (dv 4))) (aa (aY T.b_len (dv 3)) af)))))))
   (ah (aE (i:=6) sc_law.nd rfl (.inl rfl) (ay (PN.of (aH aI g (aa (dv 0) (aa (aq aB ag (aq cc ag (dv 4))) (aa (aY T.b_len (ao (dv 3) (dv 5))) af)))))))
   (ah (aE (i:=7) sc_law.nd rfl (.inr rfl) (ay (PN.of (aH aI g (aa (dv 0) (aa (aq aB ag (aq cc ag (dv 4))) (aa ag af)))))))
   (ah (uT (kL sc_law.nd (i:=8) rfl rfl rfl (aW (N:=["row"]) (caps:=[none]) (ai kQ) rN rfl rfl (by decide +kernel)) (j:=0) rfl rfl rfl (bI (dv 3)) (fun _ _ _ _=>bo) (fun _ _ _ _=>(PN.of (Bt T.b_list (dv 0))))) rfl rfl)
   (ah (ra (j:=8) (n:=0) rfl rfl (.inl rfl) (dv 5) (ay (PN.of (aq aB (gH (ao (dv 3) (dv 5)) gI (gJ (dv 6))) (PN.pd (ce (j:=0) rfl (aW (N:=["minute","more"]) (caps:=[none,some 7]) (ai kQ) rN rfl rfl (by decide +kernel)) rfl rfl rfl (bI (gH (ao (dv 3) (dv 5)) (gJ (dv 6)) gI)) (fun _ _ _ _=>bo) (fun _ _ _ _=>(PN.of (aq aB (dv 0) (dv 1))))))))))
   (ak (bN (q0 (aH iS g (aa (ao (dv 1) ag) (aa (ao (dv 1) ag) (aa (dv 2) (aa (dv 8) af)))))) (ak (EJ (i:=3) (j:=8) sc_law.nd rfl rfl (.inl rfl) (.inl rfl) rfl)) bi))))))))
   (ah (aE (i:=9) sc_law.nd rfl (.inl rfl) (ay (PN.of (GJ c_Line g (aa (ao (dv 1) ag) (aa (ao (dv 1) ag) af))))))
   (ah (bN (aS sf (aH ji g (aa (dv 9) (aa (dv 2) (aa (dv 3) af)))) fG (bu _)) (ak (aZ (ay (PN.of fG)))) bi)
   (ah (aE (i:=10) sc_law.nd rfl (.inl rfl) (ay (PN.of (aH fS g (aa (dv 9) (aa (dv 2) (aa (dv 3) af)))))))
   (ah (aE (i:=11) sc_law.nd rfl (.inl rfl) (ay (PN.of (aH gb g (aa (dv 9) (aa (dv 2) (aa (dv 10) af)))))))
   (ah (bN (PDW.pt (zg (aS (ng g.units) (ao (dv 11) ag) zd (bu _)) (zg (aS sf (aH ji g (aa (dv 9) (aa (dv 2) (aa (ao (dv 11) ag) af)))) fG (bu _)) (By (aS (ng g.units) (aH fS g (aa (dv 9) (aa (dv 2) (aa (ao (dv 11) ag) af)))) (dv 10) (bu _)))))) (ak (aZ (ay (PN.of fG)))) bi)
   (ah (cv (j:=5) PassesOwn.leaving rfl sc_law.nd rfl (.inl rfl) rfl (cz rfl T.b_range (aa (aY T.b_len (dv 2)) af))
    (ak (cv (j:=6) PassesOwn.leaving rfl sc_law.nd rfl (.inl rfl) rfl (cz rfl T.b_range (aa (aY T.b_len (ao (dv 3) (dv 5))) af))
    (ak (bN (aS Cp (ao (ao (ao (dv 11) ag) (dv 5)) (dv 6)) (ao (ao (dv 3) (dv 5)) (dv 6)) (bu _)) (ak (aZ (ay (PN.of fG)))) bi)))))
   (ak (aZ (ay (PN.of (y_ gy (aH dq g (aa (dv 9) (aa (dv 2) (aa (ao (dv 11) ag) af)))) (aH dq g (aa (dv 9) (aa (dv 2) (aa (dv 3) af)))) (bu _))))))))))))))))
end
end K05
set_option maxHeartbeats 1000000
namespace K05
open PySem L2
section
variable{K:W.Frag}{CL:Addr}
theorem du {ns:List Int}{k many:Int}(h0:0≤k)(h1:k < 100000)(h2:0 < many)(h3:many < 100000):am K CL [.scr ns,.int k,.int many]= .ok (.int (drawn ns k many)):=by
 unfold am
 refine (bK rfl).trans ?_
 have e0:aJ gX [D.scr ns,.int k,.int many]=[some (.scr ns),some (.int k),some (.int many),none,none]:=rfl
 rw [e0]
 unfold eD
 have st1:= @Cb ns k
 by_cases hz:ns.length=0
 ·have hd:decide (0 < (ns.length:Int))=false:=decide_eq_false (by omega)
  have hc7:cellOf ns k=7:=if_pos hz
  have e1:(7 * 48271+(k+1) * 7919+(ns.length:Int)) % 2147483647=om ns k:=by unfold om; rw [hc7]
  simp (disch:=omega) only [aN,qA,hd,nq,qB,vB,e1]
  rfl
 ·have hd:decide (0 < (ns.length:Int))=true:=decide_eq_true (by omega)
  have hix:=Ai (k:=k) hz
  have e1:(cellOf ns k * 48271+(k+1) * 7919+(ns.length:Int)) % 2147483647=om ns k:=rfl
  simp (disch:=omega) only [aN,qA,hd,nq,qB,vB,Dw hix,e1]
  rfl
theorem GM {k:Int}(h:0≤k∧k < 2):∃ v:Int,(v=4∨v=20)∧aA (.lst [.int 4,.int 20]) (.int k)= .ok (.int v):=by
 rcases (show k=0∨k=1 by omega) with rfl | rfl
 ·exact ⟨4,.inl rfl,yj⟩
 ·exact ⟨20,.inr rfl,yk⟩
theorem GN {k:Int}(h:0≤k∧k < 3):∃ v:Int,1≤v∧v≤61∧aA (.lst [.int 1,.int 9,.int 61]) (.int k)= .ok (.int v):=by
 rcases (show k=0∨k=1∨k=2 by omega) with rfl | rfl | rfl
 ·exact (iI 1 (by omega) (by omega) yj)
 ·exact (iI 9 (by omega) (by omega) yk)
 ·exact (iI 61 (by omega) (by omega) (ld (jK (by decide) rfl)))
structure GoodLine (rs:List Int)(g:Int):Prop where
 one:1≤rs.length
 few:rs.length≤5
 run:∀ r∈rs,1≤r∧r≤20
 gap:0≤g∧g≤5
theorem xo {ns:List Int}{base:Int}(h0:0≤base)(h1:base < 1000):∃ rs g,GoodLine rs g∧cj K CL [.scr ns,.int base]= .ok (.tup [.lst (rs.map D.int),.int g]):=by
 have b1:=eG (ns:=ns) (k:=base) (many:=5) (by omega)
 obtain ⟨m,em⟩:∃ m:Nat,1+drawn ns base 5=(m:Int):=⟨(1+drawn ns base 5).toNat,by omega⟩
 obtain ⟨v,hv,ev⟩:=GM (eG (ns:=ns) (k:=base+1) (many:=2) (by omega))
 refine (mi ((List.range m).map fun (i:Nat)=>1+drawn ns (base+2+(i:Int)) v) (drawn ns (base+8) 6) ⟨by rw [List.length_map,List.length_range]; omega,by rw [List.length_map,List.length_range]; omega,fun r hr=> ?_,?_⟩ ?_)
 ·obtain ⟨i,_,rfl⟩:=List.mem_map.mp hr
  have:=eG (ns:=ns) (k:=base+2+(i:Int)) (many:=v) (by omega)
  omega
 ·have:=eG (ns:=ns) (k:=base+8) (many:=6) (by omega)
  omega
 ·unfold cj
  refine (bK rfl).trans ?_
  have e0:aJ dg [D.scr ns,.int base]=[some (.scr ns),some (.int base),none,none]:=rfl
  rw [e0]
  unfold da
  have d1:=du (K:=K) (CL:=CL) (ns:=ns) (k:=base) (many:=5) (by omega) (by omega) (by omega) (by omega)
  have d2:=du (K:=K) (CL:=CL) (ns:=ns) (k:=base+1) (many:=2) (by omega) (by omega) (by omega) (by omega)
  have d3:=du (K:=K) (CL:=CL) (ns:=ns) (k:=base+8) (many:=6) (by omega) (by omega) (by omega) (by omega)
  simp only [aN,d1,em]
  rw [bn (xs:=List.range m) (c:=fun (i:Nat)=>D.int (i:Int)) (g:=fun (i:Nat)=>D.int (1+drawn ns (base+2+(i:Int)) v)) (by simp only [aN,dw (show m < 1000000 by omega)]) (by rw [List.length_range]; omega) (fun i hi=>⟨_,rfl,?_⟩)]
  ·simp only [aN,d3,List.map_map]
   rfl
  ·have hi:=List.mem_range.mp hi
   have d4:=du (K:=K) (CL:=CL) (ns:=ns) (k:=base+2+(i:Int)) (many:=v) (by omega) (by omega) (by omega) (by omega)
   have ec:dN [none,some 0,some 1] [some (D.scr ns),some (D.int base),some (D.int (m:Int)),none]=[none,some (.scr ns),some (.int base)]:=rfl
   rw [ec]
   simp only [aN,d2,ev,d4]
end
set_option maxHeartbeats 1000000
section
variable{K:W.Frag}{CL:Addr}
noncomputable abbrev Tr:=Nat×Nat×Int
noncomputable def bO (t:Tr):D:= .tup [.int t.1,.int t.2.1,.int t.2.2]
structure Good (n:Nat)(t:Tr):Prop where
 a:t.1≤n
 b:t.2.1≤n
 ne:t.1≠t.2.1
 r:0≤t.2.2∧t.2.2≤60
noncomputable def ar (t:Tr):List Nat:=if t.1 < t.2.1 then (List.range (t.2.1 - t.1)).map (t.1 + ·) else ((List.range (t.1 - t.2.1)).map (t.2.1 + ·)).reverse
noncomputable def aR (l:List Nat):List D:=l.map fun (i:Nat)=>D.int (i:Int)
theorem cx {n:Nat}{t:Tr}(g:Good n t):∀ s∈ar t,s < n:=by
 intro s hs
 have:=g.a; have:=g.b
 unfold ar at hs
 split at hs
 ·obtain ⟨i,hi,rfl⟩:=List.mem_map.mp hs
  have:=List.mem_range.mp hi
  omega
 ·obtain ⟨i,hi,rfl⟩:=List.mem_map.mp (List.mem_reverse.mp hs)
  have:=List.mem_range.mp hi
  omega
theorem cu {t:Tr}:(ar t).Nodup:=by
 have go:∀ a n:Nat,((List.range n).map (a + ·)).Nodup:=fun a n=>by
  refine List.Pairwise.map _ (fun x y h=> ?_) (List.nodup_range (n:=n))
  intro z; exact h (by omega)
 unfold ar
 split
 ·exact go _ _
 ·exact (List.pairwise_reverse.mpr ((go _ _).imp fun h z=>h z.symm))
theorem eA {n:Nat}{t:Tr}(g:Good n t):(ar t).length≤n:=by
 have:=g.a; have:=g.b
 unfold ar
 split
 ·rw [List.length_map,List.length_range]; omega
 ·rw [List.length_reverse,List.length_map,List.length_range]; omega
theorem ot {n:Nat}{t:Tr}(g:Good n t):0 < (ar t).length:=by
 have:=g.a; have:=g.b; have:=g.ne
 unfold ar
 split
 ·rw [List.length_map,List.length_range]; omega
 ·rw [List.length_reverse,List.length_map,List.length_range]; omega
theorem kN {a b:Nat}:oa (a:Int) ((b:Int) - (a:Int)).toNat=aR ((List.range (b - a)).map (a + ·)):=by
 unfold oa aR
 have e:((b:Int) - (a:Int)).toNat=b - a:=by omega
 rw [e,List.map_map]
 refine List.map_congr_left fun i _=> ?_
 show D.int ((a:Int)+(i:Int))=D.int (((a+i:Nat)):Int)
 congr 1
theorem tI {a b:Nat}(h:b < a):rh ((a:Int) - 1) (((a:Int) - 1) - ((b:Int) - 1)).toNat=aR ((List.range (a - b)).map (b + ·)).reverse:=by
 have e:(((a:Int) - 1) - ((b:Int) - 1)).toNat=a - b:=by omega
 unfold rh aR
 rw [e]
 apply List.ext_getElem
 ·simp
 ·intro i h1 h2
  simp only [List.length_map,List.length_range,List.length_reverse] at h1 h2
  simp only [List.getElem_map,List.getElem_range,List.getElem_reverse,List.length_map,List.length_range]
  congr 1
  omega
theorem pG {n:Nat}{t:Tr}(g:Good n t)(hn:n≤1000):bf K CL [bO t]= .ok (.lst (aR (ar t))):=by
 have ha:=g.a; have hb:=g.b
 obtain ⟨a,b,r⟩:=t
 unfold bf
 refine (bK rfl).trans ?_
 have e0:aJ eV [bO (a,b,r)]=[some (.tup [.int a,.int b,.int r])]:=rfl
 rw [e0]
 unfold gQ
 have cp:∀ x y:Nat,x≤1000→y≤1000→∀ ρ:DS,(sR2 (pC (kI x) (pC (kI y) pN))) ρ= .ok (aR ((List.range (y - x)).map (x + ·))):=fun x y hx hy ρ=>by
  simp only [aN,qC (show -1000000≤(x:Int) by omega) (show (x:Int) < 1000000 by omega) (show -1000000≤(y:Int) by omega) (show (y:Int) < 1000000 by omega),kN]
 simp only [aN]
 dsimp only at ha hb
 by_cases hab:a < b
 ·have e1:decide ((a:Int) < (b:Int))=true:=decide_eq_true (by omega)
  simp only [aN,e1]
  rw [bn (xs:=(List.range (b - a)).map (a + ·)) (c:=fun (i:Nat)=>D.int (i:Int)) (g:=fun (i:Nat)=>D.int (i:Int)) (by
   simp only [aN,qC (show -1000000≤(a:Int) by omega) (show (a:Int) < 1000000 by omega) (show -1000000≤(b:Int) by omega) (show (b:Int) < 1000000 by omega),kN]; rfl) (by rw [List.length_map,List.length_range]; omega) (fun i hi=>⟨_,rfl,rfl⟩)]
  simp only [aN]
  unfold ar
  rw [if_pos (show (a,b,r).1 < (a,b,r).2.1 from hab)]
  rfl
 ·have e1:decide ((a:Int) < (b:Int))=false:=decide_eq_false (by omega)
  simp only [aN,e1]
  rw [bn (xs:=(List.range (a - b)).map (b + ·)) (c:=fun (i:Nat)=>D.int (i:Int)) (g:=fun (i:Nat)=>D.int (i:Int)) (by
   simp only [aN,qC (show -1000000≤(b:Int) by omega) (show (b:Int) < 1000000 by omega) (show -1000000≤(a:Int) by omega) (show (a:Int) < 1000000 by omega),kN]; rfl) (by rw [List.length_map,List.length_range]; omega) (fun i hi=>⟨_,rfl,rfl⟩)]
  simp only [aN]
  have e2:∀ l:List D,tH (.lst l) (.int (-1))= .ok (.lst l.reverse):=fun l=>by unfold tH; rfl
  simp only [aN,e2]
  unfold ar aR
  rw [if_neg (show ¬ (a,b,r).1 < (a,b,r).2.1 from hab),List.map_reverse]
theorem Ei {n s d:Nat}(hs:s≤n)(hd:d < n):(s+1+d) % (n+1)≠s:=by
 by_cases h:s+1+d < n+1
 ·rw [Nat.mod_eq_of_lt h]; omega
 ·have:(s+1+d) % (n+1)=s+1+d - (n+1):=by
   rw [Nat.mod_eq_sub_mod (by omega),Nat.mod_eq_of_lt (by omega)]
  omega
theorem kb {base:Int}{i:Nat}(c:Int)(h0:0≤base)(h1:base < 1000)(hi:i < 5)(hc:0≤c∧c≤40):0≤base+c+5 * (i:Int)∧base+c+5 * (i:Int) < 2000:=by omega
theorem tX {ns:List Int}{base most:Int}{n:Nat}(h0:0≤base)(h1:base < 1000)(hn:1≤n)(hn5:n≤5)(hm:1≤most)(hm5:most≤5) :
  ∃ ts:List Tr,(ts.length:Int)=1+drawn ns base most∧(∀ t∈ts,Good n t)∧bG K CL [.scr ns,.int base,.int n,.int most]= .ok (.lst (ts.map bO)):=by
 have b1:=eG (ns:=ns) (k:=base) (many:=most) (by omega)
 obtain ⟨m,em⟩:∃ m:Nat,1+drawn ns base most=(m:Int):=⟨(1+drawn ns base most).toNat,by omega⟩
 have dr:∀ k many:Int,0≤k→k < 2000→0 < many→many < 1000→∃ a:Nat,(a:Int)=drawn ns k many∧(a:Int) < many∧am K CL [.scr ns,.int k,.int many]= .ok (.int (a:Int)):=fun k many k0 k1 m0 m1=>by
  have:=eG (ns:=ns) (k:=k) (many:=many) m0
  refine ⟨(drawn ns k many).toNat,by omega,by omega,?_⟩
  rw [Int.toNat_of_nonneg this.1]
  exact du k0 (by omega) m0 (by omega)
 suffices goal:∃ d,bG K CL [.scr ns,.int base,.int n,.int most]= .ok d∧∃ ts:List Tr,d= .lst (ts.map bO)∧ts.length=m∧∀ t∈ts,Good n t by
  obtain ⟨_,e,ts,rfl,hl,hg⟩:=goal
  exact ⟨ts,by omega,hg,e⟩
 have n1:0 < (n:Int)+1:=by omega
 have n2:(n:Int)+1 < 1000:=by omega
 have n3:0 < (n:Int):=by omega
 have n4:(n:Int) < 1000:=by omega
 have b40:0≤base+40∧base+40 < 2000:=by omega
 unfold bG
 rw [show iG 4 bR (bF K CL) [D.scr ns,D.int base,D.int n,D.int most]=fD (bF K CL (aJ bR [D.scr ns,D.int base,D.int n,D.int most])) from bK rfl]
 have e0:aJ bR [D.scr ns,.int base,.int n,.int most]=[some (.scr ns),some (.int base),some (.int n),some (.int most),none,none,none,none]:=rfl
 rw [e0]
 unfold bF
 have d1:=du (K:=K) (CL:=CL) (ns:=ns) (k:=base) (many:=most) (by omega) (by omega) (by omega) (by omega)
 simp only [aN,d1,em,dw (show m < 1000000 by omega)]
 refine wU (fun rem ρ=>∃ ts:List Tr,ts.length+rem.length=m∧(∀ t∈ts,Good n t)∧∃ o5 o6 o7,ρ=[some (.scr ns),some (.int base),some (.int n),some (.int most),some (.lst (ts.map bO)),o5,o6,o7]∧∀ d∈rem,∃ i:Nat,i < m∧d= .int i)
  ⟨[],by simp,fun _ h=>(by cases h),none,none,none,rfl,fun d hd=> ?_⟩ (fun d ds ρ ⟨ts,hl,hg,o5,o6,o7,e,hd⟩=> ?_) (fun O ⟨ts,hl,hg,o5,o6,o7,e,_⟩=> ?_)
 ·obtain ⟨i,hi,rfl⟩:=List.mem_map.mp hd
  exact ⟨i,List.mem_range.mp hi,rfl⟩
 ·subst e
  obtain ⟨i,hi,rfl⟩:=hd d (List.mem_cons_self ..)
  rw [List.length_cons] at hl
  have j:i < 5:=by omega
  obtain ⟨s,_,hs,es⟩:=dr (base+1+5 * (i:Int)) ((n:Int)+1) (kb 1 h0 h1 j (by decide)).1 (kb 1 h0 h1 j (by decide)).2 n1 n2
  obtain ⟨x,_,hx,ex⟩:=dr (base+2+5 * (i:Int)) (n:Int) (kb 2 h0 h1 j (by decide)).1 (kb 2 h0 h1 j (by decide)).2 n3 n4
  obtain ⟨c,_,hc,ec⟩:=dr (base+3+5 * (i:Int)) 3 (kb 3 h0 h1 j (by decide)).1 (kb 3 h0 h1 j (by decide)).2 (by decide) (by decide)
  obtain ⟨y,_,hy,ey⟩:=dr (base+4+5 * (i:Int)) 2 (kb 4 h0 h1 j (by decide)).1 (kb 4 h0 h1 j (by decide)).2 (by decide) (by decide)
  obtain ⟨z,_,hz,ez⟩:=dr (base+40) 3 b40.1 b40.2 (by decide) (by decide)
  obtain ⟨v,v0,v1,ev⟩:=GN (k:=(z:Int)) ⟨Int.natCast_nonneg z,hz⟩
  obtain ⟨r,_,hr,er⟩:=dr (base+5+5 * (i:Int)) v (kb 5 h0 h1 j (by decide)).1 (kb 5 h0 h1 j (by decide)).2 v0 (Int.lt_of_le_of_lt v1 (by decide))
  have r60:0≤(r:Int)∧(r:Int)≤60:=⟨Int.natCast_nonneg r,by omega⟩
  have sn:s≤n:=by omega
  have xn:x < n:=by omega
  have eg:((s:Int)+1+(x:Int)) % ((n:Int)+1)=(((s+1+x) % (n+1):Nat):Int):=by push_cast; rfl
  have g1:Good n (s,(s+1+x) % (n+1),(r:Int)):=⟨sn,Nat.le_of_lt_succ (Nat.mod_lt (s+1+x) (Nat.succ_pos n)),fun h=>Ei sn xn h.symm,r60⟩
  have step:∀ (a b:Nat) (o:Option D),Good n (a,b,(r:Int))→∃ O,k9 4 (bZ aU (fK (pC (ac 6) (pC (ac 7) (pC (bD (pC (ac 0) (pC (ae (ae (ac 1) (kI 5) aO) (ae (kI 5) (ac 5) dR) aO) (pC (ae (i6 (pC (kI 1) (pC (kI 9) (pC (kI 61) pN)))) (bD (pC (ac 0) (pC (ae (ac 1) (kI 40) aO) (pC (kI 3) pN))) (am K CL)) aA) pN))) (am K CL)) pN)))))
    [some (.scr ns),some (.int base),some (.int n),some (.int most),some (.lst (ts.map bO)),some (.int i),some (.int a),some (.int b)]= .nx O∧O=[some (.scr ns),some (.int base),some (.int n),some (.int most),some (.lst ((ts ++ [(a,b,(r:Int))]).map bO)),some (.int i),some (.int a),some (.int b)]:=fun a b o g=>by
   refine ⟨_,qy (l:=ts.map bO) (d:=bO (a,b,(r:Int))) rfl ?_ (by rw [List.length_map]; omega),?_⟩
   ·simp (disch:=omega) only [aN,kl,ez,ev,er]
    rfl
   ·rw [List.map_append]; rfl
  have hd':∀ x∈ds,∃ i:Nat,i < m∧x= .int i:=fun x hx=>hd x (cN hx)
  have fin:∀ (a b:Nat),Good n (a,b,(r:Int))→∃ ts':List Tr,ts'.length+ds.length=m∧(∀ t∈ts',Good n t)∧∃ o5 o6 o7,[some (D.scr ns),some (.int base),some (.int n),some (.int most),some (.lst ((ts ++ [(a,b,(r:Int))]).map bO)),some (.int i),some (.int a),some (.int b)]=[some (.scr ns),some (.int base),some (.int n),some (.int most),some (.lst (ts'.map bO)),o5,o6,o7]∧∀ d∈ds,∃ i:Nat,i < m∧d= .int i:=fun a b g=>
   ⟨ts ++ [(a,b,(r:Int))],by rw [List.length_append]; simp; omega,fun t ht=>by
    rcases List.mem_append.mp ht with h | h
    ·exact hg t h
    ·rw [List.mem_singleton.mp h]; exact g,_,_,_,rfl,hd'⟩
  by_cases hc1:c=1
  ·have e1:((c:Int) == 1)=true:=by rw [hc1]; rfl
   have g2:Good n (y * n,n - y * n,(r:Int)):=by
    have:y=0∨y=1:=by omega
    rcases this with rfl | rfl
    ·exact ⟨by simp,by simp,by simp; omega,r60⟩
    ·exact ⟨by simp,by simp,by simp; omega,r60⟩
   have e2:(y:Int) * (n:Int)=((y * n:Nat):Int):=by push_cast; rfl
   have e3:(n:Int) - ((y * n:Nat):Int)=((n - y * n:Nat):Int):=by have:=g2.a; dsimp only at this; omega
   obtain ⟨O,h1,h2⟩:=step (y * n) (n - y * n) none g2
   refine ⟨_,O,rfl,?_,by rw [h2]; exact fin _ _ g2⟩
   simp (disch:=omega) only [aN,kl,es,ex,ec,ey,eg,e1,nq,e2,e3,qB]
   exact h1
  ·have e1:((c:Int) == 1)=false:=beq_eq_false_iff_ne.mpr (by omega)
   obtain ⟨O,h1,h2⟩:=step s ((s+1+x) % (n+1)) none g1
   refine ⟨_,O,rfl,?_,by rw [h2]; exact fin _ _ g1⟩
   simp (disch:=omega) only [aN,kl,es,ex,ec,eg,e1,qB]
   exact h1
 ·subst e
  refine ⟨_,rfl,ts,rfl,hl,hg⟩
end
set_option maxHeartbeats 1000000
section
variable{K:W.Frag}{CL:Addr}
noncomputable def aG (CL:Addr)(rs:List Int)(g:Int):D:= .ins CL ["minutes","gap"] [.tup (rs.map D.int),.int g]
theorem eT {rs:List Int}{g:Int}:d8 CL [aG CL rs g]= .ok (.lst (rs.map D.int)):=by
 unfold d8 aG km
 dsimp only
 rw [if_pos rfl]
 rfl
theorem m8 {rs:List Int}{g:Int}:ij CL [aG CL rs g]= .ok (.int g):=by
 unfold ij aG km
 dsimp only
 rw [if_pos rfl]
 have:sG ["minutes","gap"] [.tup (rs.map D.int),.int g] "gap" =some (.int g):=by
  unfold sG
  rw [if_neg (by decide +kernel)]
  unfold sG
  rw [if_pos rfl]
 rw [this]
theorem yG {rs:List Int}{g:Int}{m:Str}(h:(["minutes","gap"]:List Str).contains m=false):lS CL m (aG CL rs g)=true:=by
 unfold lS aG
 dsimp only
 rw [h]
 simp
theorem Fl {rs:List Int}{g:Int}:lS CL "runs" (aG CL rs g)=true:=yG (by decide +kernel)
theorem Ij {rs:List Int}{g:Int}:lS CL "clear" (aG CL rs g)=true:=yG (by decide +kernel)
theorem AZ {rs:List Int}{g:Int}(h:GoodLine rs g):jF K CL [.lst (rs.map D.int),.int g]= .ok (aG CL rs g):=by
 have e:bx K CL [.lst (rs.map D.int),.int g]= .ok .non:=by
  unfold bx
  refine (bK rfl).trans ?_
  have e0:aJ gY [D.lst (rs.map D.int),.int g]=[some (.lst (rs.map D.int)),some (.int g),none]:=rfl
  rw [e0]
  unfold eE
  have h1:=h.one; have h2:=h.few; have h3:=h.gap
  have q1:decide (1≤(rs.length:Int))=true:=decide_eq_true (by omega)
  have q2:decide ((rs.length:Int)≤5)=true:=decide_eq_true (by omega)
  simp only [aN,q1,q2]
  refine sC (fun rem ρ=>(∀ d∈rem,∃ r:Int,(1≤r∧r≤20)∧d= .int r)∧∃ o,ρ=[some (.lst (rs.map D.int)),some (.int g),o]) ⟨fun d hd=> ?_,none,rfl⟩ (fun d ds ρ hZ167=> ?_) (fun ρ' hZ168=> ?_)
  ·obtain ⟨r,hr,rfl⟩:=List.mem_map.mp hd
   exact ⟨r,h.run r hr,rfl⟩
  ·obtain ⟨hd,o,e⟩:=hZ167
   subst e
   obtain ⟨r,hr,rfl⟩:=hd d (List.mem_cons_self ..)
   refine (Gj _ _ rfl ?_ (fun x hx=>hd x (cN hx)) (some (.int r)) rfl)
   have q3:decide (1≤r)=true:=decide_eq_true hr.1
   have q4:decide (r≤20)=true:=decide_eq_true hr.2
   simp only [aN,q3,q4]
  ·obtain ⟨_,o,e⟩:=hZ168
   subst e
   have q3:decide (0≤g)=true:=decide_eq_true h3.1
   have q4:decide (g≤5)=true:=decide_eq_true h3.2
   simp only [aN,q3,q4]
 unfold jF
 dsimp only
 rw [e,aD]
 rfl
theorem oF {rs:List Int}{g:Int}{t:Tr}(h:Good rs.length t):ca K CL [aG CL rs g,bO t]= .ok .non:=by
 obtain ⟨a,b,r⟩:=t
 have ha:=h.a; have hb:=h.b; have hr:=h.r; have hn:=h.ne
 dsimp only at ha hb hr hn
 unfold ca
 refine (bK rfl).trans ?_
 have e0:aJ f7 [aG CL rs g,bO (a,b,r)]=[some (aG CL rs g),some (.tup [.int a,.int b,.int r]),none,none,none]:=rfl
 rw [e0]
 unfold dY
 have e3:((3:Int) == 3)=true:=rfl
 simp only [aN,Fl,eT,e3]
 refine sC (fun rem ρ=>(∀ d∈rem,∃ i:Nat,i≤rs.length∧d= .int i)∧∃ o,ρ=[some (aG CL rs g),some (.tup [.int a,.int b,.int r]),some (.int rs.length),o,none]) ⟨fun d hd=> ?_,none,rfl⟩ (fun d ds ρ hZ169=> ?_) (fun ρ' hZ170=> ?_)
 ·rcases List.mem_cons.mp hd with rfl | hd
  ·exact ⟨a,ha,rfl⟩
  ·rw [List.mem_singleton.mp hd]
   exact ⟨b,hb,rfl⟩
 ·obtain ⟨hd,o,e⟩:=hZ169
  subst e
  obtain ⟨i,hi,rfl⟩:=hd d (List.mem_cons_self ..)
  refine (Gj _ _ rfl ?_ (fun x hx=>hd x (cN hx)) (some (.int i)) rfl)
  have q3:decide (0≤(i:Int))=true:=decide_eq_true (by omega)
  have q4:decide ((i:Int)≤(rs.length:Int))=true:=decide_eq_true (by omega)
  simp only [aN,q3,q4]
 ·obtain ⟨_,o,e⟩:=hZ170
  subst e
  have q2:((a:Int) == (b:Int))=false:=beq_eq_false_iff_ne.mpr (by omega)
  have q3:decide (0≤r)=true:=decide_eq_true hr.1
  have q4:decide (r≤60)=true:=decide_eq_true hr.2
  simp only [aN,q2,q3,q4]
theorem Fd {rs:List Int}{g:Int}{t:Tr}(h:Good rs.length t)(hn:rs.length≤1000):sW K CL [aG CL rs g,bO t]= .ok (.lst (aR (ar t))):=by
 have e1:=oF (K:=K) (CL:=CL) (g:=g) h
 obtain ⟨a,b,r⟩:=t
 have ha:=h.a; have hb:=h.b; have hne:=h.ne
 dsimp only at ha hb hne
 unfold sW
 refine (bK rfl).trans ?_
 have e0:aJ xV [aG CL rs g,bO (a,b,r)]=[some (aG CL rs g),some (.tup [.int a,.int b,.int r]),none,none]:=rfl
 rw [e0]
 unfold ve
 have e1':ca K CL [aG CL rs g,.tup [.int a,.int b,.int r]]= .ok .non:=e1
 simp only [aN,e1']
 by_cases hab:a < b
 ·have q1:decide ((a:Int) < (b:Int))=true:=decide_eq_true (by omega)
  have q2:pJ [.int (a:Int),.int (b:Int)]= .ok (.lst (aR ((List.range (b - a)).map (a + ·)))):=by
   unfold pJ
   dsimp only
   rw [if_pos,kN]
   unfold iF
   simp only [Bool.and_eq_true,decide_eq_true_eq]
   refine ⟨⟨by omega,by omega⟩,fv (by omega)⟩
  simp only [aN,q1,q2]
  unfold ar
  rw [if_pos (show (a,b,r).1 < (a,b,r).2.1 from hab)]
 ·have q1:decide ((a:Int) < (b:Int))=false:=decide_eq_false (by omega)
  have q2:pK [.int ((a:Int) - 1),.int ((b:Int) - 1),.int (-1)]= .ok (.lst (aR ((List.range (a - b)).map (b + ·)).reverse)):=by
   unfold pK
   dsimp only
   rw [if_pos,tI (by omega)]
   unfold iF
   simp only [Bool.and_eq_true,decide_eq_true_eq]
   refine ⟨⟨⟨by omega,by omega⟩,fv (by omega)⟩,trivial⟩
  simp only [aN,q1,q2]
  unfold ar
  rw [if_neg (show ¬ (a,b,r).1 < (a,b,r).2.1 from hab)]
theorem mX {rs:List Int}{g:Int}{ts:List Tr}(h:∀ t∈ts,Good rs.length t)(hn:rs.length≤1000)(h1:1≤ts.length)(h2:ts.length≤5):cR K CL [aG CL rs g,.lst (ts.map bO)]= .ok (.lst (ts.map fun t=> .lst (aR (ar t)))):=by
 unfold cR
 refine (bK rfl).trans ?_
 have e0:aJ qi [aG CL rs g,.lst (ts.map bO)]=[some (aG CL rs g),some (.lst (ts.map bO))]:=rfl
 rw [e0]
 unfold qg
 have q1:decide (1≤(ts.length:Int))=true:=decide_eq_true (by omega)
 have q2:decide ((ts.length:Int)≤5)=true:=decide_eq_true (by omega)
 simp only [aN,q1,q2]
 rw [bn (xs:=ts) (c:=bO) (g:=fun t=> .lst (aR (ar t))) rfl (by omega) (fun t ht=>⟨_,rfl,?_⟩)]
 ·simp only [aN]
 ·have ec:dN [none,some 0] [some (aG CL rs g),some (.lst (ts.map bO))]=[none,some (aG CL rs g)]:=rfl
  rw [ec]
  simp only [aN,Fd (K:=K) (CL:=CL) (g:=g) (h t ht) hn]
end
set_option maxHeartbeats 1000000
noncomputable def vO (b:Int)(l:List Int):Int:=l.foldl max b
theorem d_:∀ (l:List Int) (b:Int),(b≤vO b l∧∀ e∈l,e≤vO b l)∧(vO b l=b∨vO b l∈l)
 | [],b=>⟨⟨Int.le_refl _,fun _ h=>by cases h⟩,.inl rfl⟩
 | a :: l,b=>by
  obtain ⟨⟨h1,h2⟩,h3⟩:=d_ l (max b a)
  have e:vO b (a :: l)=vO (max b a) l:=rfl
  rw [e]
  refine ⟨⟨by omega,fun x hx=> ?_⟩,?_⟩
  ·rcases List.mem_cons.mp hx with rfl | hx
   ·omega
   ·exact h2 x hx
  ·rcases h3 with h | h
   ·rcases (show max b a=b∨max b a=a by omega) with z | z
    ·exact .inl (h.trans z)
    ·exact .inr (by rw [h,z]; exact List.mem_cons_self ..)
   ·exact .inr (cN h)
theorem uI {b v:Int}{l:List Int}(h1:b≤v)(h2:∀ e∈l,e≤v)(h3:v=b∨v∈l):vO b l=v:=by
 obtain ⟨⟨a1,a2⟩,a3⟩:=d_ l b
 have l1:vO b l≤v:=by
  rcases a3 with z | z
  ·omega
  ·exact h2 _ z
 have l2:v≤vO b l:=by
  rcases h3 with z | z
  ·omega
  ·exact a2 _ z
 omega
noncomputable abbrev Pl:=List (List Int)
noncomputable def aj (p:Pl)(k:Nat):List Int:=p.getD k []
noncomputable def bb (w:List Nat)(row:List Int)(s:Nat):List Int:=((w.zip row).filter fun q=>q.1 == s).map (·.2)
noncomputable abbrev Q:=Tr×Nat
noncomputable def cZ (ts:List Tr)(p:Pl)(s:Nat):List (Int×Nat):=ts.zipIdx.flatMap fun q=>(bb (ar q.1) (aj p q.2) s).map fun m=>(m,q.2)
noncomputable def apart (rs:List Int)(g:Int)(s:Nat):Int:=rs.getD s 0+g
noncomputable def free (rs:List Int)(g:Int)(ts:List Tr)(p:Pl)(s:Nat):Int:=vO 0 ((cZ ts p s).map fun e=>e.1+apart rs g s)
noncomputable def b8 (p:Pl)(q:Q):Nat:=(ar q.1).getD (aj p q.2).length 0
noncomputable def there (rs:List Int)(p:Pl)(q:Q):Int:=match (aj p q.2).getLast? with
 | none=>q.1.2.2
 | some m=>m+rs.getD ((ar q.1).getD ((aj p q.2).length - 1) 0) 0
noncomputable def cT (rs:List Int)(g:Int)(ts:List Tr)(p:Pl)(q:Q):Int:=max (there rs p q) (free rs g ts p (b8 p q))
noncomputable def nA (p:Pl)(q:Q):Bool:=decide ((aj p q.2).length < (ar q.1).length)
noncomputable def bX (ts:List Tr)(p:Pl):List Q:=ts.zipIdx.filter (nA p)
noncomputable def f2 (rs:List Int)(g:Int)(ts:List Tr)(p:Pl)(q:Q):List Int:=[cT rs g ts p q,q.2]
noncomputable def f3 (rs:List Int)(g:Int)(ts:List Tr)(p:Pl)(q:Q):List Int:=[cT rs g ts p q,q.2,b8 p q]
noncomputable def bQ (f:Q→List Int)(q:Q)(qs:List Q):Q:=qs.foldl (fun b u=>if HT.aM (f u) (f b)=true then u else b) q
theorem oZ (f:Q→List Int):∀ (qs:List Q) (q:Q),fR (f q) (qs.map f)=f (bQ f q qs)
 | [],_=>rfl
 | u :: qs,q=>by
  have e1:fR (f q) ((u :: qs).map f)=fR (if HT.aM (f u) (f q)=true then f u else f q) (qs.map f):=rfl
  have e2:bQ f q (u :: qs)=bQ f (if HT.aM (f u) (f q)=true then u else q) qs:=rfl
  rw [e1,e2,← oZ f qs]
  split <;> rfl
theorem kH (f:Q→List Int):∀ (qs:List Q) (q:Q),bQ f q qs∈q :: qs
 | [],q=>List.mem_cons_self ..
 | u :: qs,q=>by
  have e2:bQ f q (u :: qs)=bQ f (if HT.aM (f u) (f q)=true then u else q) qs:=rfl
  rw [e2]
  have:=kH f qs (if HT.aM (f u) (f q)=true then u else q)
  rcases List.mem_cons.mp this with h | h
  ·rw [h]
   split
   ·exact cN (List.mem_cons_self ..)
   ·exact List.mem_cons_self ..
  ·exact cN (cN h)
theorem Gx {a b:Int}{i j:Nat}{s t:Int}(h:i≠j):HT.aM [a,(i:Int),s] [b,(j:Int),t]=HT.aM [a,(i:Int)] [b,(j:Int)]:=by
 have hij:¬ ((i:Int)=(j:Int)):=by omega
 unfold HT.aM
 split
 ·unfold HT.aM
  rw [if_neg hij,if_neg hij]
 ·rfl
theorem uR {rs:List Int}{g:Int}{ts:List Tr}{p:Pl}:∀ (qs:List Q) (q:Q),(∀ u∈qs,u.2≠q.2)→(qs.Pairwise fun a b=>a.2≠b.2)→bQ (f3 rs g ts p) q qs=bQ (f2 rs g ts p) q qs
 | [],_,_,_=>rfl
 | u :: qs,q,h,hp=>by
  have e:HT.aM (f3 rs g ts p u) (f3 rs g ts p q)=HT.aM (f2 rs g ts p u) (f2 rs g ts p q):=Gx (h u (List.mem_cons_self ..))
  have e1:bQ (f3 rs g ts p) q (u :: qs)=bQ (f3 rs g ts p) (if HT.aM (f3 rs g ts p u) (f3 rs g ts p q)=true then u else q) qs:=rfl
  have e2:bQ (f2 rs g ts p) q (u :: qs)=bQ (f2 rs g ts p) (if HT.aM (f2 rs g ts p u) (f2 rs g ts p q)=true then u else q) qs:=rfl
  rw [e1,e2,e]
  rw [List.pairwise_cons] at hp
  split
  ·exact uR qs u (fun v hv z=>hp.1 v hv z.symm) hp.2
  ·exact uR qs q (fun v hv=>h v (cN hv)) hp.2
noncomputable def step (rs:List Int)(g:Int)(ts:List Tr)(p:Pl)(q:Q):Pl:=p.set q.2 (aj p q.2 ++ [cT rs g ts p q])
noncomputable def run (rs:List Int)(g:Int)(ts:List Tr):Nat→Pl→Pl
 | 0,p=>p
 | n+1,p=>match bX ts p with
  | []=>p
  | q :: qs=>run rs g ts n (step rs g ts p (bQ (f2 rs g ts p) q qs))
theorem oh {rs:List Int}{g:Int}{ts:List Tr}{p:Pl}(h:bX ts p=[]):∀ n,run rs g ts n p=p
 | 0=>rfl
 | n+1=>by unfold run; rw [h]
theorem oi {rs:List Int}{g:Int}{ts:List Tr}{p:Pl}{q:Q}{qs:List Q}{n:Nat}(h:bX ts p=q :: qs):run rs g ts (n+1) p=run rs g ts n (step rs g ts p (bQ (f2 rs g ts p) q qs)):=by
 conv=>lhs; unfold run
 rw [h]
structure Inv1 (ts:List Tr)(p:Pl):Prop where
 len:p.length=ts.length
 rows:∀ q∈ts.zipIdx,(aj p q.2).length≤(ar q.1).length
 nn:∀ r∈p,∀ m∈r,(0:Int)≤m
theorem mem_zip {α:Type}{l:List α}{q:α×Nat}:q∈l.zipIdx↔l[q.2]?=some q.1:=by
 rw [List.mem_zipIdx_iff_getElem?]
theorem cn {p:Pl}{k:Nat}(h:k < p.length):p[k]?=some (aj p k):=by
 unfold aj; rw [List.getD_eq_getElem?_getD,cC h]; rfl
theorem BT {p:Pl}{k:Nat}{m:Int}(h:m∈aj p k):∃ r∈p,m∈r:=by
 unfold aj at h
 rw [List.getD_eq_getElem?_getD] at h
 cases q:p[k]? with
 | none=>rw [q] at h; cases h
 | some r=>rw [q] at h; exact ⟨r,List.mem_of_getElem? q,h⟩
theorem kO {p:Pl}{k j:Nat}{r:List Int}(h:k < p.length):aj (p.set k r) j=if j=k then r else aj p j:=by
 unfold aj
 rw [List.getD_eq_getElem?_getD,List.getD_eq_getElem?_getD,List.getElem?_set]
 by_cases e:k=j
 ·subst e; rw [if_pos rfl,if_pos rfl,if_pos h]; rfl
 ·rw [if_neg e,if_neg (fun z=>e z.symm)]
theorem AU {rs:List Int}{g:Int}{ts:List Tr}{p:Pl}{s:Nat}:0≤free rs g ts p s:=(d_ _ _).1.1
theorem getD_mem {α:Type}{l:List α}{i:Nat}{d:α}(h:i < l.length):l.getD i d∈l:=by
 rw [List.getD_eq_getElem?_getD,cC h]; exact List.getElem_mem h
theorem nC {rs:List Int}{g:Int}{ts:List Tr}{p:Pl}{q:Q}(I:Inv1 ts p)(hq:q∈bX ts p):Inv1 ts (step rs g ts p q):=by
 obtain ⟨h1,h2⟩:=List.mem_filter.mp hq
 have hz:=mem_zip.mp h1
 have hk:q.2 < ts.length:=(d7 hz).1
 have hl:(aj p q.2).length < (ar q.1).length:=of_decide_eq_true h2
 have hkp:q.2 < p.length:=by rw [I.len]; exact hk
 refine ⟨by unfold step; rw [List.length_set]; exact I.len,fun u hu=> ?_,fun r hr m hm=> ?_⟩
 ·unfold step
  rw [kO hkp]
  split
  ·rename_i e
   have hu':=mem_zip.mp hu
   rw [e,hz] at hu'
   rw [List.length_append,← Option.some.inj hu']
   exact hl
  ·exact I.rows u hu
 ·unfold step at hr
  rcases List.mem_or_eq_of_mem_set hr with h | h
  ·exact I.nn r h m hm
  ·rw [h] at hm
   rcases List.mem_append.mp hm with h | h
   ·obtain ⟨r',h3,h4⟩:=BT h
    exact I.nn r' h3 m h4
   ·rw [List.mem_singleton.mp h]
    have:=AU (rs:=rs) (g:=g) (ts:=ts) (p:=p) (s:=b8 p q)
    unfold cT
    omega
theorem eL {ts:List Tr}{f:Q→Bool}:(ts.zipIdx.filter f).Pairwise fun a b=>a.2≠b.2:=by
 refine List.Pairwise.filter _ ?_
 have:(ts.zipIdx.map Prod.snd).Nodup:=by rw [List.zipIdx_map_snd]; exact List.nodup_range'
 exact List.pairwise_map.mp this
theorem kZ {α β:Type}:∀ {w:List α} {row:List β} {x:β} {s:α},w[row.length]?=some s→w.zip (row ++ [x])=w.zip row ++ [(s,x)]
 | [],row,x,s,h=>by simp at h
 | a :: w,[],x,s,h=>by simp at h; subst h; simp
 | a :: w,b :: row,x,s,h=>by
  simp at h
  rw [List.cons_append,List.zip_cons_cons,kZ h,List.zip_cons_cons,List.cons_append]
theorem im {w:List Nat}{row:List Int}{x:Int}{s s':Nat}(h:w[row.length]?=some s):bb w (row ++ [x]) s'=bb w row s' ++ (if s=s' then [x] else []):=by
 unfold bb
 rw [kZ h,List.filter_append,List.map_append]
 congr 1
 by_cases e:s=s'
 ·subst e
  rw [if_pos rfl,List.filter_cons_of_pos (p:=fun q:Nat×Int=>q.1 == s) (a:=(s,x)) (beq_self_eq_true s)]; rfl
 ·rw [if_neg e,List.filter_cons_of_neg (by simpa using e)]; rfl
theorem eR:∀ {w:List Nat} {row:List Int} {s:Nat},w.Nodup→(bb w row s).length≤1
 | [],row,s,_=>by unfold bb; simp
 | a :: w,[],s,_=>by unfold bb; simp
 | a :: w,b :: row,s,h=>by
  rw [List.nodup_cons] at h
  have ih:=eR (row:=row) (s:=s) h.2
  unfold bb at ih ⊢
  rw [List.zip_cons_cons]
  by_cases e:a=s
  ·subst e
   rw [List.filter_cons_of_pos (p:=fun q:Nat×Int=>q.1 == a) (a:=(a,b)) (beq_self_eq_true a)]
   have:(w.zip row).filter (fun q=>q.1 == a)=[]:=by
    rw [List.filter_eq_nil_iff]
    intro q hq hqa
    have e2:q.1=a:=by simpa using hqa
    exact h.1 (e2 ▸ (List.of_mem_zip hq).1)
   rw [this]; simp
  ·rw [List.filter_cons_of_neg (by simpa using e)]
   exact ih
theorem nu {α β:Type}{f:α→List β}:∀ (l:List α),(∀ x∈l,(f x).length≤1)→(l.flatMap f).length≤l.length
 | [],_=>by simp
 | x :: l,h=>by
  rw [List.flatMap_cons,List.length_append,List.length_cons]
  have:=h x (List.mem_cons_self ..)
  have:=nu l fun y hy=>h y (cN hy)
  omega
theorem vy {ts:List Tr}{p:Pl}{s:Nat}:(cZ ts p s).length≤ts.length:=by
 have:=nu (f:=fun q:Q=>(bb (ar q.1) (aj p q.2) s).map fun m=>(m,q.2)) ts.zipIdx fun q _=>by
  rw [List.length_map]; exact eR cu
 rw [List.length_zipIdx] at this
 exact this
theorem ent_mem {ts:List Tr}{p:Pl}{s:Nat}{m:Int}{k:Nat}:(m,k)∈cZ ts p s↔∃ t,ts[k]?=some t∧m∈bb (ar t) (aj p k) s:=by
 unfold cZ
 rw [List.mem_flatMap]
 constructor
 ·intro hZ26
  obtain ⟨q,hq,h⟩:=hZ26
  obtain ⟨m',hm,e⟩:=List.mem_map.mp h
  cases e
  exact ⟨q.1,mem_zip.mp hq,hm⟩
 ·intro hZ27
  obtain ⟨t,ht,hm⟩:=hZ27
  exact ⟨(t,k),mem_zip.mpr ht,List.mem_map.mpr ⟨m,hm,rfl⟩⟩
theorem wo {ts:List Tr}{p:Pl}{q:Q}(hl:(aj p q.2).length < (ar q.1).length):(ar q.1)[(aj p q.2).length]?=some (b8 p q):=by
 unfold b8; rw [List.getD_eq_getElem?_getD,cC hl]; rfl
theorem wV {rs:List Int}{g:Int}{ts:List Tr}{p:Pl}{q:Q}(I:Inv1 ts p)(hq:q∈bX ts p)(ha:0≤apart rs g (b8 p q))(s:Nat) :
  free rs g ts (step rs g ts p q) s=if s=b8 p q then cT rs g ts p q+apart rs g s else free rs g ts p s:=by
 obtain ⟨h1,h2⟩:=List.mem_filter.mp hq
 have hz:=mem_zip.mp h1
 have hk:q.2 < ts.length:=(d7 hz).1
 have hl:(aj p q.2).length < (ar q.1).length:=of_decide_eq_true h2
 have hkp:q.2 < p.length:=by rw [I.len]; exact hk
 have hst:=wo (ts:=ts) hl
 have j:∀ m k,(m,k)∈cZ ts (step rs g ts p q) s↔(m,k)∈cZ ts p s∨(s=b8 p q∧m=cT rs g ts p q∧k=q.2):=by
  intro m k
  rw [ent_mem,ent_mem]
  have e:aj (step rs g ts p q) k=if k=q.2 then aj p q.2 ++ [cT rs g ts p q] else aj p k:=kO hkp
  rw [e]
  by_cases l:k=q.2
  ·rw [if_pos l,l,hz]
   constructor
   ·intro hZ28
    obtain ⟨t,ht,i⟩:=hZ28
    cases ht
    rw [im hst] at i
    rcases List.mem_append.mp i with h | h
    ·exact .inl ⟨_,rfl,h⟩
    ·by_cases e:b8 p q=s
     ·rw [if_pos e] at h; exact .inr ⟨e.symm,List.mem_singleton.mp h,rfl⟩
     ·rw [if_neg e] at h; cases h
   ·rintro (⟨t,ht,i⟩ | ⟨e1,e2,_⟩)
    ·cases ht
     exact ⟨_,rfl,by rw [im hst]; exact List.mem_append_left _ i⟩
    ·exact ⟨_,rfl,by rw [im hst,if_pos e1.symm,e2]; exact List.mem_append_right _ (List.mem_singleton.mpr rfl)⟩
  ·rw [if_neg l]
   exact ⟨fun h=> .inl h,fun h=>h.elim id fun z=>absurd z.2.2 l⟩
 obtain ⟨⟨b1,b2⟩,b3⟩:=d_ ((cZ ts p s).map fun e=>e.1+apart rs g s) 0
 by_cases hs:s=b8 p q
 ·rw [if_pos hs]
  have hso:free rs g ts p s≤cT rs g ts p q:=by unfold cT; rw [← hs]; omega
  have hso':vO 0 ((cZ ts p s).map fun e=>e.1+apart rs g s)≤cT rs g ts p q:=hso
  rw [← hs] at ha
  refine uI (by omega) (fun e he=> ?_) (.inr (List.mem_map.mpr ⟨(cT rs g ts p q,q.2),(j _ _).mpr (.inr ⟨hs,rfl,rfl⟩),rfl⟩))
  obtain ⟨⟨m,k⟩,i,rfl⟩:=List.mem_map.mp he
  rcases (j m k).mp i with h | ⟨_,h,_⟩
  ·have:=b2 (m+apart rs g s) (List.mem_map.mpr ⟨(m,k),h,rfl⟩)
   dsimp only
   omega
  ·rw [h]
   exact Int.le_refl _
 ·rw [if_neg hs]
  refine uI b1 (fun e he=> ?_) (b3.imp id fun h=> ?_)
  ·obtain ⟨⟨m,k⟩,i,rfl⟩:=List.mem_map.mp he
   rcases (j m k).mp i with h | ⟨h,_,_⟩
   ·exact b2 _ (List.mem_map.mpr ⟨(m,k),h,rfl⟩)
   ·exact absurd h hs
  ·obtain ⟨⟨m,k⟩,i,e⟩:=List.mem_map.mp h
   exact List.mem_map.mpr ⟨(m,k),(j m k).mpr (.inl i),e⟩
theorem u7 {rs:List Int}{g:Int}{ts:List Tr}{p:Pl}{q u:Q}(I:Inv1 ts p)(hq:q∈bX ts p)(hu:u∈ts.zipIdx) :
  there rs (step rs g ts p q) u=if u.2=q.2 then cT rs g ts p q+rs.getD (b8 p q) 0 else there rs p u:=by
 obtain ⟨h1,h2⟩:=List.mem_filter.mp hq
 have hz:=mem_zip.mp h1
 have hk:q.2 < ts.length:=(d7 hz).1
 have hkp:q.2 < p.length:=by rw [I.len]; exact hk
 have e:aj (step rs g ts p q) u.2=if u.2=q.2 then aj p q.2 ++ [cT rs g ts p q] else aj p u.2:=kO hkp
 unfold there
 rw [e]
 by_cases k:u.2=q.2
 ·have hu':=mem_zip.mp hu
  rw [k,hz] at hu'
  have eu:q.1=u.1:=Option.some.inj hu'
  rw [if_pos k,if_pos k,List.getLast?_concat]
  dsimp only
  rw [List.length_append]
  show cT rs g ts p q+rs.getD ((ar u.1).getD ((aj p q.2).length+1 - 1) 0) 0=_
  rw [Nat.add_sub_cancel,← eu]
  rfl
 ·rw [if_neg k,if_neg k]
theorem zO:∀ {l:List Nat},(∀ x∈l,x≤5)→l.sum≤5 * l.length
 | [],_=>by simp
 | x :: l,h=>by
  have:=h x (List.mem_cons_self ..)
  have:=zO fun y hy=>h y (List.mem_cons_of_mem x hy)
  rw [List.sum_cons,List.length_cons]; omega
theorem rD:∀ {p:Pl} {k:Nat} {x:Int},k < p.length→((p.set k (aj p k ++ [x])).map List.length).sum=(p.map List.length).sum+1
 | [],k,x,h=>by simp at h
 | r :: p,0,x,h=>by
  show ((r ++ [x]).length :: p.map List.length).sum=(r.length :: p.map List.length).sum+1
  rw [List.sum_cons,List.sum_cons,List.length_append]; simp; omega
 | r :: p,k+1,x,h=>by
  have ih:=rD (p:=p) (k:=k) (x:=x) (by simpa using h)
  show (r.length :: (p.set k (aj p k ++ [x])).map List.length).sum=(r.length :: p.map List.length).sum+1
  rw [List.sum_cons,List.sum_cons,ih]; omega
theorem zP {n:Nat}{ts:List Tr}{p:Pl}(I:Inv1 ts p)(hg:∀ t∈ts,Good n t)(hn:n≤5)(ht:ts.length≤5):(p.map List.length).sum≤25:=by
 have h1:(p.map List.length).sum≤5 * (p.map List.length).length:=zO fun x hx=>by
  obtain ⟨r,hr,rfl⟩:=List.mem_map.mp hx
  obtain ⟨k,hk,e⟩:=List.getElem_of_mem hr
  have hk':k < ts.length:=by rw [← I.len]; exact hk
  have h2:=I.rows (ts[k],k) (mem_zip.mpr (cC hk'))
  have h3:aj p k=r:=by
   have:=cn hk
   rw [cC hk,e] at this
   exact (Option.some.inj this).symm
  dsimp only at h2
  rw [h3] at h2
  have:=eA (hg _ (List.getElem_mem hk'))
  omega
 rw [List.length_map,I.len] at h1
 omega
set_option maxHeartbeats 1000000
section
variable{K:W.Frag}{CL:Addr}
noncomputable def av (r:List Int):D:= .lst (r.map D.int)
noncomputable def bv (t:List Int):D:= .tup (t.map D.int)
noncomputable def aC (t:Tr):D:= .lst (aR (ar t))
theorem mI {a b:Nat}:((a:Int) == (b:Int))=(a == b):=by
 by_cases h:a=b
 ·subst h; simp
 ·rw [beq_eq_false_iff_ne.mpr h,beq_eq_false_iff_ne.mpr (by omega)]
theorem qE {l:List D}:EW (.lst l)= .ok (!l.isEmpty):=id rfl
structure Ctx (rs:List Int)(g:Int)(ts:List Tr):Prop where
 ln:GoodLine rs g
 tr:∀ t∈ts,Good rs.length t
 few:ts.length≤5
 one:1≤ts.length
theorem Ctx.good {rs:List Int}{g:Int}{ts:List Tr}{q:Q}(C:Ctx rs g ts)(hq:q∈ts.zipIdx):Good rs.length q.1:=C.tr _ (List.mem_of_getElem? (mem_zip.mp hq))
theorem Ctx.rows {rs:List Int}{g:Int}{ts:List Tr}{p:Pl}(C:Ctx rs g ts)(I:Inv1 ts p):∀ r∈p,r.length≤1000:=fun r hr=>by
 obtain ⟨k,hk,e⟩:=List.getElem_of_mem hr
 have hk':k < ts.length:=by rw [← I.len]; exact hk
 have hz:(ts[k],k)∈ts.zipIdx:=mem_zip.mpr (cC hk')
 have h2:=I.rows _ hz
 have h3:aj p k=r:=by
  have:=cn hk
  rw [cC hk,e] at this
  exact (Option.some.inj this).symm
 dsimp only at h2
 rw [h3] at h2
 have h4:(ar ts[k]).length≤rs.length:=eA (C.good hz)
 have:=C.ln.few
 omega
theorem fV {rs:List Int}{g:Int}(h:GoodLine rs g){s:Nat}(hs:s < rs.length):1≤rs.getD s 0∧rs.getD s 0≤20:=h.run _ (getD_mem hs)
theorem vM {w:List Nat}{i:Nat}{v:Nat}(h:w[i]?=some v):aA (.lst (aR w)) (.int (i:Int))= .ok (.int (v:Int)):=bq h
theorem cL {α:Type}{l:List α}{i:Nat}{d:α}(h:i < l.length):l[i]?=some (l.getD i d):=by
 rw [List.getD_eq_getElem?_getD,cC h]; rfl
end
set_option maxHeartbeats 1000000
section
variable{K:W.Frag}{CL:Addr}
theorem BS {rs:List Int}{g:Int}{ts:List Tr}{p:Pl}{k:Nat}(C:Ctx rs g ts)(I:Inv1 ts p)(hk:k < p.length):(aj p k).length≤1000:=C.rows I _ (List.mem_of_getElem? (cn hk))
noncomputable def p0 (ts:List Tr):Pl:=ts.map fun _=>[]
theorem oe {ts:List Tr}{k:Nat}:aj (p0 ts) k=[]:=by
 unfold aj p0
 rw [List.getD_eq_getElem?_getD,List.getElem?_map]
 cases ts[k]? <;> rfl
theorem uv {ts:List Tr}:Inv1 ts (p0 ts):=⟨by unfold p0; rw [List.length_map],fun q _=>by rw [oe]; exact Nat.zero_le _,fun r hr m hm=>by
 unfold p0 at hr
 obtain ⟨_,_,rfl⟩:=List.mem_map.mp hr
 cases hm⟩
theorem u5:∀ {ts:List Tr},((p0 ts).map List.length).sum=0
 | []=>rfl
 | _ :: ts=>by
  show (0 :: (p0 ts).map List.length).sum=0
  rw [List.sum_cons,u5]
theorem Ev {ts:List Tr}{α:Type}{f:α→D}:(ts.map fun _=>D.lst [])=(p0 ts).map av:=by
 unfold p0; rw [List.map_map]; rfl
end
set_option maxHeartbeats 1000000
section
variable{K:W.Frag}{CL:Addr}
noncomputable def fk (rs:List Int)(g:Int)(ts:List Tr)(p:Pl):List Int:=(List.range rs.length).map (free rs g ts p)
noncomputable def cD (rs:List Int)(ts:List Tr)(p:Pl):List Int:=ts.zipIdx.map (there rs p)
theorem AV {rs:List Int}{g:Int}{ts:List Tr}{s:Nat}:free rs g ts (p0 ts) s=0:=by
 have e:cZ ts (p0 ts) s=[]:=by
  unfold cZ
  rw [List.flatMap_eq_nil_iff]
  intro q _
  rw [oe]
  unfold bb
  rw [List.zip_nil_right]
  rfl
 unfold free
 rw [e]
 rfl
theorem yx {rs:List Int}{g:Int}{ts:List Tr}:fk rs g ts (p0 ts)=rs.map fun _=>0:=by
 unfold fk
 apply List.ext_getElem
 ·simp
 ·intro i h1 h2
  rw [List.getElem_map,List.getElem_map,AV]
theorem xI {rs:List Int}{ts:List Tr}:cD rs ts (p0 ts)=ts.map fun t=>t.2.2:=by
 unfold cD
 have e:there rs (p0 ts)=fun q:Q=>q.1.2.2:=by
  funext q
  unfold there
  rw [oe]
  rfl
 rw [e]
 have:ts.zipIdx.map Prod.fst=ts:=List.zipIdx_map_fst ..
 conv=>rhs; rw [← this,List.map_map]
 rfl
theorem ur {rs:List Int}{g:Int}{ts:List Tr}{p:Pl}{q:Q}(C:Ctx rs g ts)(I:Inv1 ts p)(hq:q∈bX ts p)(hs:b8 p q < rs.length):fk rs g ts (step rs g ts p q)=(fk rs g ts p).set (b8 p q) (cT rs g ts p q+rs.getD (b8 p q) 0+g):=by
 have ha:0≤apart rs g (b8 p q):=by
  have:=fV C.ln hs
  have:=C.ln.gap
  unfold apart; omega
 unfold fk
 apply List.ext_getElem
 ·simp
 ·intro i h1 h2
  rw [List.getElem_map,List.getElem_range,List.getElem_set,wV I hq ha]
  by_cases e:i=b8 p q
  ·rw [if_pos e,if_pos e.symm,e]
   unfold apart; omega
  ·rw [if_neg e,if_neg fun z=>e z.symm,List.getElem_map,List.getElem_range]
theorem md {rs:List Int}{g:Int}{ts:List Tr}{p:Pl}{q:Q}(I:Inv1 ts p)(hq:q∈bX ts p):cD rs ts (step rs g ts p q)=(cD rs ts p).set q.2 (cT rs g ts p q+rs.getD (b8 p q) 0):=by
 unfold cD
 apply List.ext_getElem
 ·simp
 ·intro i h1 h2
  have hi:i < ts.length:=by simpa using h1
  have hz:(ts[i],0+i)∈ts.zipIdx:=mem_zip.mpr (by rw [Nat.zero_add]; exact cC hi)
  rw [List.getElem_map,List.getElem_zipIdx,List.getElem_set,u7 I hq hz]
  by_cases e:i=q.2
  ·rw [if_pos (by show 0+i=q.2; omega),if_pos e.symm]
  ·rw [if_neg (by show ¬ 0+i=q.2; omega),if_neg fun z=>e z.symm,List.getElem_map,List.getElem_zipIdx]
theorem xH {rs:List Int}{ts:List Tr}{p:Pl}{q:Q}(hq:q∈ts.zipIdx):(cD rs ts p)[q.2]?=some (there rs p q):=by
 have hz:=mem_zip.mp hq
 unfold cD
 rw [List.getElem?_map,List.getElem?_zipIdx,hz]
 show some (there rs p (q.1,0+q.2))=_
 rw [Nat.zero_add]
theorem yw {rs:List Int}{g:Int}{ts:List Tr}{p:Pl}{s:Nat}(h:s < rs.length):(fk rs g ts p)[s]?=some (free rs g ts p s):=by
 unfold fk
 rw [List.getElem?_map,List.getElem?_range h]
 rfl
noncomputable abbrev ly (rs:List Int)(g:Int)(ts:List Tr)(p:Pl)(o6 o7 o8 o9:Option D):DS:=
 [some (.lst (rs.map D.int)),some (.int g),some (.lst (ts.map bO)),some (.lst (p.map av)),some (.lst ((fk rs g ts p).map D.int)),some (.lst ((cD rs ts p).map D.int)),o6,o7,o8,o9]
theorem mm {rs:List Int}{g:Int}{ts:List Tr}(C:Ctx rs g ts):bM K CL [.lst (rs.map D.int),.int g,.lst (ts.map bO)]= .ok (.lst ((run rs g ts 26 (p0 ts)).map av)):=by
 have hf:=C.few; have ho:=C.one; have hr5:=C.ln.few
 unfold bM
 refine (bK rfl).trans ?_
 have e0:aJ bd [.lst (rs.map D.int),.int g,.lst (ts.map bO)]=[some (.lst (rs.map D.int)),some (.int g),some (.lst (ts.map bO)),none,none,none,none,none,none,none]:=rfl
 rw [e0]
 unfold cb
 simp only [aN]
 rw [bn (xs:=ts) (c:=bO) (g:=fun _=>D.lst []) rfl (by omega) (fun t ht=>⟨_,rfl,by simp only [aN]⟩),Ev (α:=Nat) (f:=fun _=> .non)]
 simp only [aN]
 rw [bn (xs:=rs) (c:=D.int) (g:=fun _=>D.int 0) rfl (by omega) (fun t ht=>⟨_,rfl,by simp only [aN]⟩)]
 simp only [aN]
 rw [bn (xs:=ts) (c:=bO) (g:=fun t=>D.int t.2.2) rfl (by omega) (fun t ht=>⟨_,rfl,(pk:aA (bO t) (.int 2)= .ok (.int t.2.2))⟩)]
 have z1:(rs.map fun _=>D.int 0)=(fk rs g ts (p0 ts)).map D.int:=by rw [yx,List.map_map]; rfl
 have z2:(ts.map fun t=>D.int t.2.2)=(cD rs ts (p0 ts)).map D.int:=by rw [xI,List.map_map]; rfl
 simp only [aN,z1,z2]
 refine me (fun n ρ=>∃ (p:Pl) (x s r v:Option D),Inv1 ts p∧n+(p.map List.length).sum=26∧run rs g ts n p=run rs g ts 26 (p0 ts)∧ρ=ly rs g ts p x s r v)
  (fun ρ=>∃ o4 o5 x s r v,ρ=[some (.lst (rs.map D.int)),some (.int g),some (.lst (ts.map bO)),some (.lst ((run rs g ts 26 (p0 ts)).map av)),o4,o5,x,s,r,v]) 26 (by decide) ⟨p0 ts,none,none,none,none,uv,by rw [u5],rfl,rfl⟩ (fun n ρ ⟨p,x,s,r,v,I,hn,hR,e⟩=> ?_) (fun O ⟨o4,o5,x,s,r,v,e⟩=> ?_)
 ·subst e
  have hway:∀ q∈ts.zipIdx,bf K CL [bO q.1]= .ok (aC q.1):=fun q o=>pG (C.good o) (by omega)
  have hrow:∀ q∈ts.zipIdx,aA (.lst (p.map av)) (.int (q.2:Int))= .ok (av (aj p q.2)):=fun q o=>bq (g:=av) (cn (by rw [I.len]; exact (d7 (mem_zip.mp o)).1))
  have htr:∀ q∈ts.zipIdx,aA (.lst (ts.map bO)) (.int (q.2:Int))= .ok (bO q.1):=fun q o=>bq (g:=bO) (mem_zip.mp o)
  have hlr:∀ q:Q,ba [av (aj p q.2)]= .ok (.int ((aj p q.2).length:Int)):=fun q=>cM
  have hlp:∀ q:Q,ba [aC q.1]= .ok (.int ((ar q.1).length:Int)):=fun q=>cM
  have hrg:oS [.int (ts.length:Int)]= .ok (ts.zipIdx.map fun q=>D.int (q.2:Int)):=by rw [dw (by omega),lI]
  have hgo:∀ q:Q,decide (((aj p q.2).length:Int) < ((ar q.1).length:Int))=nA p q:=fun q=>by
   unfold nA
   by_cases h:(aj p q.2).length < (ar q.1).length
   ·rw [decide_eq_true h,decide_eq_true (by omega)]
   ·rw [decide_eq_false h,decide_eq_false (by omega)]
  have w:(eY (ae (c1 (aV (sR1 (pC (c1 (ac 2) ba) pN)) [none,some 3,some 2] (bw 0) yes (ae (c1 (ae (ac 1) (ac 0) aA) ba) (c1 (bD (pC (ae (ac 2) (ac 0) aA) pN) (bf K CL)) ba) rC)) oQ) (kI 0) sV)) (ly rs g ts p x s r v)= .ok (!(bX ts p).isEmpty):=by
   simp only [aN]
   rw [bn (xs:=ts.zipIdx) (c:=fun q=>D.int (q.2:Int)) (g:=fun q=>D.int (((aj p q.2).length:Int) - ((ar q.1).length:Int))) (by simp only [aN,hrg]) (by rw [List.length_zipIdx]; omega) (fun q o=>⟨_,rfl,?_⟩)]
   ·have z3:(ts.zipIdx.map fun q=>D.int (((aj p q.2).length:Int) - ((ar q.1).length:Int)))=(ts.zipIdx.map fun q=>((aj p q.2).length:Int) - ((ar q.1).length:Int)).map D.int:=by rw [List.map_map]; rfl
    rw [z3]
    have hne:(ts.zipIdx.map fun q=>((aj p q.2).length:Int) - ((ar q.1).length:Int))≠[]:=fun z=>by
     have:=congrArg List.length z
     rw [List.length_map,List.length_zipIdx] at this
     simp at this
     rw [this] at ho
     simp at ho
    obtain ⟨m1,m2⟩:=lD hne
    have z4:oQ [.lst ((ts.zipIdx.map fun q=>((aj p q.2).length:Int) - ((ar q.1).length:Int)).map D.int)]= .ok (.int (lC (ts.zipIdx.map fun q=>((aj p q.2).length:Int) - ((ar q.1).length:Int)))):=by
     revert hne
     cases (ts.zipIdx.map fun q=>((aj p q.2).length:Int) - ((ar q.1).length:Int)) with
     | nil=>intro h; exact absurd rfl h
     | cons a l=>intro _; exact yY
    simp only [aN,z4]
    refine congrArg Res.ok ?_
    cases y:bX ts p with
    | nil=>
     show decide (_ < (0:Int))=false
     refine decide_eq_false fun h=> ?_
     obtain ⟨q,o,e⟩:=List.mem_map.mp m1
     have:q∈bX ts p:=List.mem_filter.mpr ⟨o,decide_eq_true (by omega)⟩
     rw [y] at this
     cases this
    | cons q A=>
     show decide (_ < (0:Int))=true
     have o:q∈bX ts p:=by rw [y]; exact List.mem_cons_self ..
     obtain ⟨h1,h2⟩:=List.mem_filter.mp o
     have h3:(aj p q.2).length < (ar q.1).length:=of_decide_eq_true h2
     have:=m2 _ (List.mem_map.mpr ⟨q,h1,rfl⟩)
     exact decide_eq_true (by omega)
   ·have ec:dN [none,some 3,some 2] (ly rs g ts p x s r v)=[none,some (.lst (p.map av)),some (.lst (ts.map bO))]:=rfl
    rw [ec]
    simp only [aN,hrow q o,htr q o,hway q o,hlr,hlp]
  cases y:bX ts p with
  | nil=>
   left
   rw [w,y]
   refine ⟨rfl,some (.lst ((fk rs g ts p).map D.int)),some (.lst ((cD rs ts p).map D.int)),x,s,r,v,?_⟩
   rw [← hR,oh y]
  | cons q A=>
   right
   have hs:=zP I C.tr hr5 hf
   obtain ⟨m,rfl⟩:∃ m,n=m+1:=⟨n - 1,by omega⟩
   rw [w,y]
   refine ⟨rfl,m,?_⟩
   have hm:bQ (f2 rs g ts p) q A∈bX ts p:=by rw [y]; exact kH _ _ _
   have hp23:bQ (f3 rs g ts p) q A=bQ (f2 rs g ts p) q A:=by
    have hpw:(bX ts p).Pairwise fun a b=>a.2≠b.2:=eL
    rw [y,List.pairwise_cons] at hpw
    exact uR A q (fun u hu z=>hpw.1 u hu z.symm) hpw.2
   generalize hu:bQ (f2 rs g ts p) q A=u at hm hp23
   have I':=nC (rs:=rs) (g:=g) I hm
   have hmz:=(List.mem_filter.mp hm).1
   have hz:=mem_zip.mp hmz
   have hk:u.2 < p.length:=by rw [I.len]; exact (d7 hz).1
   have stl:∀ q∈bX ts p,(ar q.1)[(aj p q.2).length]?=some (b8 p q)∧b8 p q < rs.length:=fun q o=>by
    obtain ⟨h1,h2⟩:=List.mem_filter.mp o
    have h3:=wo (ts:=ts) (of_decide_eq_true h2)
    exact ⟨h3,cx (C.good h1) _ (List.mem_of_getElem? h3)⟩
   have e2:i8 [.lst ((bX ts p).map fun q=>bv (f3 rs g ts p q))]= .ok (bv (f3 rs g ts p u)):=by
    have h1:=Bk (t:=f3 rs g ts p q) (ts:=A.map (f3 rs g ts p))
    rw [oZ,hp23] at h1
    have e:((q :: A).map fun q=>bv (f3 rs g ts p q))=(f3 rs g ts p q :: A.map (f3 rs g ts p)).map bv:=by rw [List.map_cons,List.map_cons,List.map_map]; rfl
    rw [y,e]
    exact h1
   have t0:aA (bv (f3 rs g ts p u)) (.int 0)= .ok (.int (cT rs g ts p u)):=pj
   have t1:aA (bv (f3 rs g ts p u)) (.int 1)= .ok (.int (u.2:Int)):=vF
   have t2:aA (bv (f3 rs g ts p u)) (.int 2)= .ok (.int (b8 p u:Int)):=pk
   suffices h:∃ O,(ax (aQ 6 (bZ aK (i6 pN)))
  (ax (c_ (sR1 (pC (c1 (ac 2) ba) pN)) (bw 7) (ii (eY (ae (c1 (ae (ac 3) (ac 7) aA) ba) (c1 (bD (pC (ae (ac 2) (ac 7) aA) pN) (bf K CL)) ba) sV)) (ax (aQ 8 (rK 0 (ae (bD (pC (ae (ac 2) (ac 7) aA) pN) (bf K CL)) (c1 (ae (ac 3) (ac 7) aA) ba) aA)))
  (k9 6 (rK 0 (fK (pC (bD (pC (ae (ac 5) (ac 7) aA) (pC (ae (ac 4) (ac 8) aA) pN)) pO) (pC (ac 7) (pC (ac 8) pN))))))) nxt))
  (ax (aQ 9 (rK 0 (c1 (ac 6) i8)))
  (ax (tK 3 (ae (ac 9) (kI 1) aA) (bZ aK (ae (ac 9) (kI 0) aA)))
  (ax (lK 5 (ae (ac 9) (kI 1) aA) (bZ aK (ae (ae (ac 9) (kI 0) aA) (ae (ac 0) (ae (ac 9) (kI 2) aA) aA) aO)))
  (lK 4 (ae (ac 9) (kI 2) aA) (rK 0 (ae (ae (ac 5) (ae (ac 9) (kI 1) aA) aA) (ac 1) aO)))))))) (ly rs g ts p x s r v)= .nx O∧∃ x s r v,O=ly rs g ts (step rs g ts p u) x s r v by
    obtain ⟨O,h1,a6,a7,a8,a9,h2⟩:=h
    refine ⟨O,rfl,h1,step rs g ts p u,a6,a7,a8,a9,I',?_,?_,h2⟩
    ·unfold step; rw [rD hk]; omega
    ·rw [← hR,oi y,hu]
   simp only [aN,hrg]
   refine pT (fun pre ρ=>∃ s r,ρ=ly rs g ts p (some (.lst ((pre.filter (nA p)).map fun q=>bv (f3 rs g ts p q)))) s r v) ⟨_,_,rfl⟩ (fun pre q post exs ρ hZ173=> ?_) (fun O hZ174=> ?_)
   ·obtain ⟨s,r,e⟩:=hZ173
    subst e
    refine ⟨_,rfl,?_⟩
    have o:q∈ts.zipIdx:=by rw [exs]; simp
    have hpl:pre.length≤5:=by
     have:=congrArg List.length exs
     rw [List.length_zipIdx,List.length_append] at this
     omega
    simp only [aN,hrow q o,htr q o,hway q o,hlr,hlp,hgo]
    cases hgq:nA p q with
    | true=>
     have hqc:q∈bX ts p:=List.mem_filter.mpr ⟨o,hgq⟩
     obtain ⟨s1,s2⟩:=stl q hqc
     have x1:aA (aC q.1) (.int ((aj p q.2).length:Int))= .ok (.int (b8 p q:Int)):=vM s1
     simp only [aN,x1,iW]
     have x2:=bq (g:=D.int) (xH (rs:=rs) (p:=p) o)
     have x3:=bq (g:=D.int) (yw (g:=g) (ts:=ts) (p:=p) s2)
     have hfl:=List.length_filter_le (nA p) pre
     refine ⟨_,qy (d:=bv (f3 rs g ts p q)) rfl ?_ (by rw [List.length_map]; omega),some (.int (q.2:Int)),some (.int (b8 p q:Int)),?_⟩
     ·have x4:eI 0 (.tup [.int (max (there rs p q) (free rs g ts p (b8 p q))),.int (q.2:Int),.int (b8 p q:Int)])=true:=sx (t:=f3 rs g ts p q)
      simp only [aN,x2,x3,x4]
      rfl
     ·rw [List.filter_append,List.filter_cons_of_pos hgq,List.filter_nil,List.map_append]
      rfl
    | false=>
     simp only [aN]
     refine ⟨_,rfl,some (.int (q.2:Int)),r,?_⟩
     rw [List.filter_append,List.filter_cons_of_neg (by rw [hgq]; exact Bool.false_ne_true),List.filter_nil,List.append_nil]
   ·obtain ⟨s,r,e⟩:=hZ174
    subst e
    have e2':i8 [.lst ((ts.zipIdx.filter (nA p)).map fun q=>bv (f3 rs g ts p q))]= .ok (bv (f3 rs g ts p u)):=e2
    have x4:eI 0 (bv (f3 rs g ts p u))=true:=sx (t:=f3 rs g ts p u)
    obtain ⟨s1,s2⟩:=stl u hm
    have y0:aA (.lst (rs.map D.int)) (.int (b8 p u:Int))= .ok (.int (rs.getD (b8 p u) 0)):=bq (g:=D.int) (cL s2)
    have lt:(cD rs ts p).length=ts.length:=by unfold cD; rw [List.length_map,List.length_zipIdx]
    have lfr:(fk rs g ts p).length=rs.length:=by unfold fk; rw [List.length_map,List.length_range]
    have hk2:u.2 < ts.length:=by rw [← I.len]; exact hk
    simp only [aN,e2',x4]
    rw [AH (m:=u.2) (l:=p.map av) (row:=(aj p u.2).map D.int) (d:= .int (cT rs g ts p u)) rfl (by simp only [aN,t1]) (by simp only [aN,t0]) (by rw [List.getElem?_map,cn hk]; rfl) (by rw [List.length_map]; have:=BS C I hk; omega)]
    have e5:(p.map av).set u.2 (.lst ((aj p u.2).map D.int ++ [.int (cT rs g ts p u)]))=(step rs g ts p u).map av:=by
     unfold step; rw [List.map_set]; unfold av; rw [List.map_append]; rfl
    simp only [aN,e5]
    rw [qD (m:=u.2) (l:=(cD rs ts p).map D.int) (d:= .int (cT rs g ts p u+rs.getD (b8 p u) 0)) rfl (by simp only [aN,t0,t2,y0]) (by simp only [aN,t1]) (by rw [List.length_map,lt]; exact hk2)]
    have e6:((cD rs ts p).map D.int).set u.2 (.int (cT rs g ts p u+rs.getD (b8 p u) 0))=(cD rs ts (step rs g ts p u)).map D.int:=by
     rw [md I hm,List.map_set]
    simp only [aN,e6]
    have y1:aA (.lst ((cD rs ts (step rs g ts p u)).map D.int)) (.int (u.2:Int))= .ok (.int (cT rs g ts p u+rs.getD (b8 p u) 0)):=bq (g:=D.int) (by rw [md I hm,List.getElem?_set,if_pos rfl,if_pos (by rw [lt]; exact hk2)])
    rw [qD (m:=b8 p u) (l:=(fk rs g ts p).map D.int) (d:= .int (cT rs g ts p u+rs.getD (b8 p u) 0+g)) rfl (by simp only [aN,t1,y1,iW]) (by simp only [aN,t2]) (by rw [List.length_map,lfr]; exact s2)]
    have e7:((fk rs g ts p).map D.int).set (b8 p u) (.int (cT rs g ts p u+rs.getD (b8 p u) 0+g))=(fk rs g ts (step rs g ts p u)).map D.int:=by
     rw [ur C I hm s2,List.map_set]
    simp only [aN,e7]
    exact ⟨_,rfl,_,_,_,_,rfl⟩
 ·subst e
  rfl
end
set_option maxHeartbeats 1000000
noncomputable def inT (rs:List Int):Int→List (Nat×Int)→Bool
 | _,[]=>true
 | s,u :: l=> !decide (u.2 < s) && inT rs (u.2+rs.getD u.1 0) l
noncomputable def sn (rs:List Int)(r:Int)(pre:List (Nat×Int)):Int:=pre.foldl (fun _ u=>u.2+rs.getD u.1 0) r
theorem mU {rs:List Int}{r:Int}{pre:List (Nat×Int)}{u:Nat×Int}:sn rs r (pre ++ [u])=u.2+rs.getD u.1 0:=by
 unfold sn; rw [List.foldl_append]; rfl
theorem lF {rs:List Int}{r:Int}:∀ (xs pre:List (Nat×Int)),dz (fun pre u=> !decide (u.2 < sn rs r pre)) pre xs=inT rs (sn rs r pre) xs
 | [],_=>rfl
 | u :: xs,pre=>by
  show (!decide (u.2 < sn rs r pre) && dz (fun pre u=> !decide (u.2 < sn rs r pre)) (pre ++ [u]) xs)=_
  rw [lF xs,mU]
  rfl
theorem pQ {α β:Type}{f:α→β}{p:List β→β→Bool}:∀ (xs pre:List α),dz (fun pre v=>p (pre.map f) (f v)) pre xs=dz p (pre.map f) (xs.map f)
 | [],_=>rfl
 | x :: xs,pre=>by
  show (p (pre.map f) (f x) && dz (fun pre v=>p (pre.map f) (f v)) (pre ++ [x]) xs)=_
  rw [pQ xs,List.map_append]
  rfl
noncomputable def a_ (T:Pl)(q:Q):List (Nat×Int):=(ar q.1).zip (aj T q.2)
noncomputable def eB (rs:List Int)(ts:List Tr)(T:Pl):Bool:=ts.zipIdx.all fun q=>inT rs q.1.2.2 (a_ T q)
noncomputable def Ap (rs:List Int)(g:Int)(ts:List Tr)(T:Pl)(s:Nat):Prop:=∀ e∈cZ ts T s,∀ e'∈cZ ts T s,e.2≠e'.2→e.1+apart rs g s≤e'.1∨e'.1+apart rs g s≤e.1
theorem pair_mem {w:List Nat}{row:List Int}{s:Nat}{m:Int}:m∈bb w row s↔(s,m)∈w.zip row:=by
 unfold bb
 rw [List.mem_map]
 constructor
 ·intro hZ29
  obtain ⟨q,hq,rfl⟩:=hZ29
  obtain ⟨h1,h2⟩:=List.mem_filter.mp hq
  have e:q.1=s:=by simpa using h2
  rw [← e]
  exact h1
 ·intro h
  exact ⟨(s,m),List.mem_filter.mpr ⟨h,beq_self_eq_true s⟩,rfl⟩
theorem nT {α:Type}{R:α→α→Prop}:∀ {l:List α},l.length≤1→l.Pairwise R
 | [],_=> .nil
 | [_],_=>List.pairwise_singleton ..
 | _ :: _ :: _,h=>by simp at h
theorem ent_pw {ts:List Tr}{T:Pl}{s:Nat}:(cZ ts T s).Pairwise fun a b=>a.2≠b.2:=by
 unfold cZ
 rw [List.pairwise_flatMap]
 refine ⟨fun q _=>nT (by rw [List.length_map]; exact eR cu),?_⟩
 have h:(ts.zipIdx.filter fun _=>true).Pairwise fun a b=>a.2≠b.2:=eL
 rw [List.filter_eq_self.mpr fun _ _=>rfl] at h
 refine h.imp fun {a b} hab x hx y hy=> ?_
 obtain ⟨_,_,rfl⟩:=List.mem_map.mp hx
 obtain ⟨_,_,rfl⟩:=List.mem_map.mp hy
 exact hab
theorem pU {α:Type}{R:α→α→Prop}:∀ {l:List α},l.Pairwise R→∀ x∈l,∀ y∈l,x≠y→R x y∨R y x
 | [],_,_,h,_,_,_=>by cases h
 | a :: l,hp,x,hx,y,hy,hne=>by
  rw [List.pairwise_cons] at hp
  rcases List.mem_cons.mp hx with hx1 | hx1
  ·rcases List.mem_cons.mp hy with hy1 | hy1
   ·exact absurd (hx1.trans hy1.symm) hne
   ·rw [hx1]; exact .inl (hp.1 y hy1)
  ·rcases List.mem_cons.mp hy with hy1 | hy1
   ·rw [hy1]; exact .inr (hp.1 x hx1)
   ·exact pU hp.2 x hx1 y hy1 hne
theorem ql {α:Type}{R:α→α→Prop}(tr:∀ a b c,R a b→R b c→R a c):∀ {l:List α},(∀ u∈l.zip l.tail,R u.1 u.2)→l.Pairwise R
 | [],_=> .nil
 | [_],_=>List.pairwise_singleton ..
 | a :: b :: l,h=>by
  have h1:R a b:=h (a,b) (by simp)
  have h2:=ql tr (l:=b :: l) fun u hu=>h u (by
   show u∈(a,b) :: (b :: l).zip l
   exact cN hu)
  rw [List.pairwise_cons]
  refine ⟨fun c hc=> ?_,h2⟩
  rcases List.mem_cons.mp hc with rfl | hc
  ·exact h1
  ·exact tr _ _ _ h1 ((List.pairwise_cons.mp h2).1 c hc)
theorem qk {α:Type}:∀ {l:List α},l.Nodup→∀ u∈l.zip l.tail,u.1∈l∧u.2∈l∧u.1≠u.2
 | [],_,u,hu=>by simp at hu
 | [_],_,u,hu=>by simp at hu
 | a :: b :: l,h,u,hu=>by
  rw [List.nodup_cons] at h
  have hu:u∈(a,b) :: (b :: l).zip l:=hu
  rcases List.mem_cons.mp hu with rfl | hu
  ·exact ⟨by simp,by simp,fun z=>h.1 (by show a∈b :: l; rw [show a=b from z]; simp)⟩
  ·obtain ⟨h1,h2,h3⟩:=qk h.2 u hu
   exact ⟨cN h1,cN h2,h3⟩
theorem sS {a b:Int}{i j:Int}(h:HT.aM [b,j] [a,i]=false):a≤b:=by
 unfold HT.aM at h
 by_cases e:b=a
 ·omega
 ·rw [if_neg e] at h
  have:=of_decide_eq_false h
  omega
noncomputable def nz (d:Int)(u:List Int×List Int):Bool:= !decide (u.2.headD 0 < u.1.headD 0+d)
theorem Ab {rs:List Int}{g:Int}{ts:List Tr}{T:Pl}{s:Nat}{l:List (List Int)}(hd:1≤apart rs g s)(hm:∀ t,t∈l↔t∈(cZ ts T s).map fun e=>[e.1,(e.2:Int)])(hn:l.Nodup)(hs:∀ u∈l.zip l.tail,HT.aM u.2 u.1=false) :
  (l.zip l.tail).all (nz (apart rs g s))=true↔Ap rs g ts T s:=by
 rw [List.all_eq_true]
 constructor
 ·intro h
  have pw:=ql (R:=fun a b:List Int=>a.headD 0+apart rs g s≤b.headD 0) (fun a b c h1 h2=>by omega) (l:=l) fun u hu=>by
   have:=h u hu
   unfold nz at this
   rw [Bool.not_eq_true',decide_eq_false_iff_not] at this
   omega
  intro e he v w hne
  exact pU pw [e.1,(e.2:Int)] ((hm _).mpr (List.mem_map.mpr ⟨e,he,rfl⟩)) [v.1,(v.2:Int)] ((hm _).mpr (List.mem_map.mpr ⟨v,w,rfl⟩)) fun z=>hne (by
   have:(e.2:Int)=(v.2:Int):=by
    injection z with _ z
    injection z
   omega)
 ·intro h u hu
  obtain ⟨h1,h2,h3⟩:=qk hn u hu
  obtain ⟨e,he,e1⟩:=List.mem_map.mp ((hm _).mp h1)
  obtain ⟨v,w,e2⟩:=List.mem_map.mp ((hm _).mp h2)
  have hlx:=hs u hu
  rw [← e1,← e2] at hlx
  have hle:=sS hlx
  have hidx:e.2≠v.2:=fun z=>by
   by_cases q:e=v
   ·rw [q] at e1
    exact h3 (e1.symm.trans e2)
   ·rcases pU ent_pw e he v w q with y | y
    ·exact y z
    ·exact y z.symm
  unfold nz
  rw [← e1,← e2,Bool.not_eq_true',decide_eq_false_iff_not]
  show ¬ v.1 < e.1+apart rs g s
  rcases h e he v w hidx with y | y <;> omega
noncomputable def gP (ts:List Tr)(T:Pl):List (Nat×Int):=ts.zipIdx.flatMap (a_ T)
noncomputable def FO (a b:Int):Int:=if a - b < 0 then -(a - b) else a - b
noncomputable def Fc (rs:List Int)(g:Int)(a b:Nat×Int):Bool:= !((a.1 == b.1) && decide (FO a.2 b.2 < rs.getD a.1 0+g))
theorem vOk_iff {rs:List Int}{g:Int}{a b:Nat×Int}:Fc rs g a b=true↔(a.1=b.1→a.2+apart rs g a.1≤b.2∨b.2+apart rs g a.1≤a.2):=by
 unfold Fc FO apart
 by_cases e:a.1=b.1
 ·rw [e,beq_self_eq_true,Bool.true_and,Bool.not_eq_true',decide_eq_false_iff_not]
  constructor
  ·intro h _
   split at h <;> omega
  ·intro h
   have:=h rfl
   split <;> omega
 ·rw [beq_eq_false_iff_ne.mpr e]
  exact ⟨fun _ z=>absurd z e,fun _=>rfl⟩
theorem pP:∀ {w:List Nat} {row:List Int},w.Nodup→(w.zip row).Pairwise fun a b=>a.1≠b.1
 | [],_,_=>by simp
 | _ :: _,[],_=>by simp
 | a :: w,b :: row,h=>by
  rw [List.nodup_cons] at h
  rw [List.zip_cons_cons,List.pairwise_cons]
  exact ⟨fun u hu z=>h.1 (by show a∈w; rw [show a=u.1 from z]; exact (List.of_mem_zip hu).1),pP h.2⟩
theorem wv {rs:List Int}{g:Int}{ts:List Tr}{T:Pl}(ht:∀ t∈ts,Good rs.length t):(gP ts T).Pairwise (fun b a=>Fc rs g a b=true)↔∀ s,s < rs.length→Ap rs g ts T s:=by
 have ev:gP ts T=(ts.zipIdx.flatMap fun q=>(a_ T q).map fun u=>(u,q.2)).map Prod.fst:=by
  unfold gP
  rw [List.map_flatMap]
  congr 1
  funext q
  rw [List.map_map]
  exact (List.map_id _).symm
 have j:∀ s m k,((s,m),k)∈(ts.zipIdx.flatMap fun q=>(a_ T q).map fun u=>(u,q.2))↔(m,k)∈cZ ts T s:=fun s m k=>by
  rw [ent_mem,List.mem_flatMap]
  constructor
  ·intro hZ30
   obtain ⟨q,hq,h⟩:=hZ30
   obtain ⟨u,hu,e⟩:=List.mem_map.mp h
   cases e
   exact ⟨q.1,mem_zip.mp hq,pair_mem.mpr hu⟩
  ·intro hZ31
   obtain ⟨t,ht,hm⟩:=hZ31
   exact ⟨(t,k),mem_zip.mpr ht,List.mem_map.mpr ⟨(s,m),pair_mem.mp hm,rfl⟩⟩
 have dist:(ts.zipIdx.flatMap fun q=>(a_ T q).map fun u=>(u,q.2)).Pairwise fun x y=>x.1.1=y.1.1→x.2≠y.2:=by
  rw [List.pairwise_flatMap]
  refine ⟨fun q _=> ?_,?_⟩
  ·rw [List.pairwise_map]
   exact (pP cu).imp fun h z=>absurd z h
  ·have h:(ts.zipIdx.filter fun _=>true).Pairwise fun a b=>a.2≠b.2:=eL
   rw [List.filter_eq_self.mpr fun _ _=>rfl] at h
   refine h.imp fun {a b} hab x hx y hy _=> ?_
   obtain ⟨_,_,rfl⟩:=List.mem_map.mp hx
   obtain ⟨_,_,rfl⟩:=List.mem_map.mp hy
   exact hab
 rw [ev,List.pairwise_map]
 constructor
 ·intro h s hs e he e' he' hne
  have m1:=(j s e.1 e.2).mpr he
  have m2:=(j s e'.1 e'.2).mpr he'
  rcases pU h _ m1 _ m2 (fun z=>hne (congrArg (fun v:(Nat×Int)×Nat=>v.2) z)) with y | y
  ·have:=vOk_iff.mp y rfl
   dsimp only at this
   omega
  ·have:=vOk_iff.mp y rfl
   dsimp only at this
   omega
 ·intro h
  refine dist.imp_of_mem fun {x y} hx hy hd=> ?_
  refine vOk_iff.mpr fun e=> ?_
  obtain ⟨⟨s,m⟩,k⟩:=x
  obtain ⟨⟨s',m'⟩,k'⟩:=y
  dsimp only at e hd ⊢
  subst e
  have h1:=(j s' m k).mp hx
  have h2:=(j s' m' k').mp hy
  obtain ⟨t,ht1,ht2⟩:=ent_mem.mp h1
  have hs:s' < rs.length:=cx (ht t (List.mem_of_getElem? ht1)) _ (List.of_mem_zip (pair_mem.mp ht2)).1
  have:=h s' hs (m,k) h1 (m',k') h2 (hd rfl)
  dsimp only at this
  omega
theorem rQ {V:List (Nat×Int)}{p:(Nat×Int)→(Nat×Int)→Bool}:((List.range V.length).all fun a=>(List.range a).all fun b=>p (V.getD a (0,0)) (V.getD b (0,0)))=true↔V.Pairwise (fun b a=>p a b=true):=by
 rw [List.pairwise_iff_getElem,List.all_eq_true]
 constructor
 ·intro h i j hi hj hij
  have:=List.all_eq_true.mp (h j (List.mem_range.mpr hj)) i (List.mem_range.mpr hij)
  rw [List.getD_eq_getElem?_getD,List.getD_eq_getElem?_getD,cC hi,cC hj] at this
  exact this
 ·intro h a ha
  rw [List.all_eq_true]
  intro b hb
  have ha:=List.mem_range.mp ha
  have hb:=List.mem_range.mp hb
  have:=h b a (by omega) ha hb
  rw [List.getD_eq_getElem?_getD,List.getD_eq_getElem?_getD,cC ha,cC (by omega)]
  exact this
set_option maxHeartbeats 1000000
section
variable{K:W.Frag}{CL:Addr}
theorem lc {ts:List Tr}{p:Pl}{s:Nat}(hlen:p.length=ts.length)(hb:∀ r∈p,r.length≤1000)(ht:ts.length≤5) :
  ∃ l:List (List Int),bz K CL [.lst (ts.map aC),.lst (p.map av),.int s]= .ok (.lst (l.map bv))∧l.length≤5∧(∀ t,t∈l↔t∈(cZ ts p s).map fun e=>[e.1,(e.2:Int)])∧l.Nodup∧(∀ u∈l.zip l.tail,HT.aM u.2 u.1=false)∧cU [.lst (((cZ ts p s).map fun e=>[e.1,(e.2:Int)]).map bv)]= .ok (.lst (l.map bv)):=by
 have hnd:((cZ ts p s).map fun e=>[e.1,(e.2:Int)]).Nodup:=List.pairwise_map.mpr (ent_pw.imp fun {a b} h z=>h (by
  have:(a.2:Int)=(b.2:Int):=by
   injection z with _ z
   injection z
  omega))
 refine t9 (u4 ((cZ ts p s).map fun e=>[e.1,(e.2:Int)]) (by rw [List.length_map]; exact Nat.le_trans vy ht) (fun t h=>by obtain ⟨e,_,rfl⟩:=List.mem_map.mp h; exact fun z=>by cases z) hnd) fun l e hl5 hl hln hls=> ?_
 refine (Gi l ?_ (by rw [hl5,List.length_map]; exact Nat.le_trans vy ht) hl hln hls e)
 unfold bz
 refine (bK rfl).trans ?_
 have e0:aJ gZ [.lst (ts.map aC),.lst (p.map av),.int s]=[some (.lst (ts.map aC)),some (.lst (p.map av)),some (.int s),none,none,none,none,none]:=rfl
 rw [e0]
 unfold eF
 simp only [aN,fT]
 have one:∀ q:Q,((bb (ar q.1) (aj p q.2) s).map fun m=>[m,(q.2:Int)]).length≤1:=fun q=>by rw [List.length_map]; exact eR cu
 refine gM (fun pre ρ=>∃ o4 o5 o6 o7,ρ=[some (.lst (ts.map aC)),some (.lst (p.map av)),some (.int s),some (.lst ((pre.flatMap fun q:Q=>(bb (ar q.1) (aj p q.2) s).map fun m=>[m,(q.2:Int)]).map bv)),o4,o5,o6,o7]) (DU none none none none rfl) (fun pre q post exs ρ hZ175=> ?_) (fun ρ' hZ176=> ?_)
 ·refine Cj (hZ175) fun o4 o5 o6 o7 e=> ?_
  subst e
  refine ⟨_,rfl,?_⟩
  have hq:q∈ts.zipIdx:=by rw [exs]; simp
  have hpl:pre.length≤5:=by
   have:=congrArg List.length exs
   rw [List.length_zipIdx,List.length_append] at this
   omega
  have hk:q.2 < p.length:=by rw [hlen]; exact (d7 (mem_zip.mp hq)).1
  have hix:=bq (g:=av) (cn hk)
  have hzp:oA [aC q.1,av (aj p q.2)]= .ok (((ar q.1).zip (aj p q.2)).map fun u=> .tup [.int (u.1:Int),.int u.2]):=lg
  simp only [aN,hix,hzp]
  have hfl:=nu (f:=fun q:Q=>(bb (ar q.1) (aj p q.2) s).map fun m=>[m,(q.2:Int)]) pre fun q _=>one q
  have hrl:(aj p q.2).length≤1000:=hb _ (List.mem_of_getElem? (cn hk))
  refine kK (fun pr ρ=>∃ o6 o7,ρ=[some (.lst (ts.map aC)),some (.lst (p.map av)),some (.int s),some (.lst (((pre.flatMap fun q:Q=>(bb (ar q.1) (aj p q.2) s).map fun m=>[m,(q.2:Int)]) ++ (pr.filter fun u=>u.1 == s).map fun u=>[u.2,(q.2:Int)]).map bv)),some (.int q.2),some (aC q.1),o6,o7]) ⟨_,_,by rw [List.filter_nil,List.map_nil,List.append_nil]⟩ (fun pr u po exs2 ρ hZ177=> ?_) (fun ρ' hZ178=> ?_)
  ·obtain ⟨o6,o7,e⟩:=hZ177
   subst e
   refine ⟨_,rfl,?_⟩
   cases hu:u.1 == s with
   | true=>
    simp only [aN,mI,hu]
    have hpr:(pr.filter fun u=>u.1 == s).length≤pr.length:=List.length_filter_le ..
    have hpz:pr.length≤(aj p q.2).length:=by
     have:=congrArg List.length exs2
     rw [List.length_zip,List.length_append] at this
     omega
    refine (ux _ (qy (d:=bv [u.2,(q.2:Int)]) rfl (by simp only [aN]; rfl) (by rw [List.length_map,List.length_append,List.length_map]; omega)) (some (.int u.1)) (some (.int u.2)) ?_)
    rw [List.filter_append,List.filter_cons_of_pos (by exact hu),List.filter_nil]
    simp only [List.map_append,List.map_cons,List.map_nil,List.append_assoc]
    rfl
   | false=>
    simp only [aN,mI,hu]
    refine (ux _ rfl (some (.int u.1)) (some (.int u.2)) ?_)
    rw [List.filter_append,List.filter_cons_of_neg (by rw [hu]; exact Bool.false_ne_true),List.filter_nil,List.append_nil]
  ·obtain ⟨o6,o7,e⟩:=hZ178
   refine (DU (some (.int q.2)) (some (aC q.1)) o6 o7 ?_)
   rw [e,List.flatMap_append,List.flatMap_singleton]
   unfold bb
   rw [List.map_map]
   rfl
 ·refine Cj (hZ176) fun o4 o5 o6 o7 e=> ?_
  subst e
  have e1:(ts.zipIdx.flatMap fun q:Q=>(bb (ar q.1) (aj p q.2) s).map fun m=>[m,(q.2:Int)])=(cZ ts p s).map fun e=>[e.1,(e.2:Int)]:=by
   unfold cZ
   rw [List.map_flatMap]
   congr 1
   funext q
   rw [List.map_map]
   rfl
  rw [e1]
  have e2:cU [.lst (((cZ ts p s).map fun e=>[e.1,(e.2:Int)]).map bv)]= .ok (.lst (l.map bv)):=e
  have e3:eI 1 (.lst (l.map bv))=true:=pH
  simp only [aN,e2,e3]
theorem si {ts:List Tr}{p:Pl}{s:Nat}(hlen:p.length=ts.length)(hb:∀ r∈p,r.length≤1000)(ht:ts.length≤5) :
  ∃ l:List (List Int),bz K CL [.lst (ts.map aC),.lst (p.map av),.int s]= .ok (.lst (l.map bv))∧l.length≤5∧(∀ t,t∈l↔t∈(cZ ts p s).map fun e=>[e.1,(e.2:Int)])∧l.Nodup∧∀ u∈l.zip l.tail,HT.aM u.2 u.1=false:=let ⟨l,h1,h2,h3,h4,h5,_⟩:=lc hlen hb ht; ⟨l,h1,h2,h3,h4,h5⟩
theorem sm:∀ (as bs:List Int),eqBL (as.map D.int) (bs.map D.int)=decide (as=bs)
 | [],[]=>by unfold eqBL; rfl
 | [],_ :: _=>by unfold eqBL; rfl
 | _ :: _,[]=>by unfold eqBL; rfl
 | a :: as,b :: bs=>by
  rw [List.map_cons,List.map_cons]
  unfold eqBL
  rw [sm as bs]
  unfold bY
  by_cases h:a=b
  ·subst h
   rw [beq_self_eq_true,Bool.true_and]
   by_cases h2:as=bs
   ·rw [decide_eq_true h2,decide_eq_true (by rw [h2])]
   ·rw [decide_eq_false h2,decide_eq_false (fun z=>h2 (List.cons.inj z).2)]
  ·rw [beq_eq_false_iff_ne.mpr h,Bool.false_and,decide_eq_false (fun z=>h (List.cons.inj z).1)]
theorem At {as bs:List Int}:xQ (.lst (as.map D.int)) (.lst (bs.map D.int))= .ok (.bl (decide (as=bs))):=by
 unfold xQ
 rw [if_pos ⟨nY fun _ _=>i_,nY fun _ _=>i_⟩]
 unfold bY
 rw [sm]
noncomputable def cF (ts:List Tr)(T:Pl):Bool:=decide ((T.map fun r=>(r.length:Int))=ts.map fun t=>((ar t).length:Int))
theorem uy {ts:List Tr}{T:Pl}(h1:ts.length≤5)(h2:T.length≤1000):fw K CL [.lst (ts.map aC),.lst (T.map av)]= .ok (.bl (cF ts T)):=by
 unfold fw
 refine (bK rfl).trans ?_
 have e0:aJ eW [.lst (ts.map aC),.lst (T.map av)]=[some (.lst (ts.map aC)),some (.lst (T.map av))]:=rfl
 rw [e0]
 unfold gR
 simp only [aN]
 rw [bn (xs:=T) (c:=av) (g:=fun r=>D.int (r.length:Int)) rfl (by omega) (fun r hr=>⟨_,rfl,cM⟩),bn (xs:=ts) (c:=aC) (g:=fun t=>D.int ((ar t).length:Int)) rfl (by omega) (fun t ht=>⟨_,rfl,cM⟩)]
 have z1:(T.map fun r=>D.int (r.length:Int))=(T.map fun r=>(r.length:Int)).map D.int:=by rw [List.map_map]; rfl
 have z2:(ts.map fun t=>D.int ((ar t).length:Int))=(ts.map fun t=>((ar t).length:Int)).map D.int:=by rw [List.map_map]; rfl
 simp only [aN,z1,z2,At]
 rfl
noncomputable abbrev rT (CL:Addr)(rs:List Int)(g:Int)(ts:List Tr)(T:Pl)(o5 o6 o7 o8 o9:Option D):DS:=[some (aG CL rs g),some (.lst (ts.map bO)),some (.lst (ts.map aC)),some (.lst (T.map av)),some (.lst (rs.map D.int)),o5,o6,o7,o8,o9]
theorem qm {rs:List Int}{g:Int}{ts:List Tr}{T:Pl}(C:Ctx rs g ts)(hlen:T.length=ts.length):cH K CL [aG CL rs g,.lst (ts.map bO),.lst (ts.map aC),.lst (T.map av)]= .ok (.bl (eB rs ts T)):=by
 unfold cH
 refine (bK rfl).trans ?_
 have e0:aJ fZ [aG CL rs g,.lst (ts.map bO),.lst (ts.map aC),.lst (T.map av)]=[some (aG CL rs g),some (.lst (ts.map bO)),some (.lst (ts.map aC)),some (.lst (T.map av)),none,none,none,none,none,none]:=rfl
 rw [e0]
 unfold dU
 simp only [aN,Fl,eT,fT]
 refine ju (fun _ ρ=>∃ o5 o6 o7 m o,ρ=(rT CL rs g ts T o5 o6 o7 m o)) (fun _ q=>inT rs q.1.2.2 (a_ T q)) (.bl false) (Bd none none none none none rfl) (fun pre q post exs ρ hZ179=> ?_) (fun hk ρ' hZ180=> ?_) (fun hk=> ?_)
 ·refine Ck (hZ179) fun o5 o6 o7 m o e=> ?_
  subst e
  have hq:q∈ts.zipIdx:=by rw [exs]; simp
  have G:=C.good hq
  have hz:=mem_zip.mp hq
  have hk:q.2 < T.length:=by rw [hlen]; exact (d7 hz).1
  have hix:=bq (g:=av) (cn hk)
  have hit:=bq (g:=bO) hz
  have e2:aA (bO q.1) (.int 2)= .ok (.int q.1.2.2):=pk
  have hzp:oA [aC q.1,av (aj T q.2)]= .ok ((a_ T q).map fun u=> .tup [.int (u.1:Int),.int u.2]):=lg
  refine ⟨_,rfl,?_⟩
  simp only [aN,hit,e2,hix,hzp]
  have w:=kU (d:= .bl false) (asg:=dL 8 9) (c:=fun u:Nat×Int=>D.tup [.int (u.1:Int),.int u.2]) (xs:=a_ T q)
   (F:=ax (ii (eY (ae (ac 9) (ac 7) sV)) (bJ (kB false)) nxt) (aQ 7 (ae (ac 9) (ae (ac 4) (ac 8) aA) aO)))
   (P:=fun ρ'=>∃ o5 o6 o7 m o,ρ'=(rT CL rs g ts T o5 o6 o7 m o))
   (ρ:=(rT CL rs g ts T (some (.int (q.2:Int))) (some (aC q.1)) (some (.int q.1.2.2)) m o))
   (fun pre ρ=>∃ m o,ρ=(rT CL rs g ts T (some (.int (q.2:Int))) (some (aC q.1)) (some (.int (sn rs q.1.2.2 pre))) m o))
   (fun pre u=> !decide (u.2 < sn rs q.1.2.2 pre)) ⟨m,o,rfl⟩ (fun pr u po exs2 ρ hZ181=>by
    obtain ⟨m,o,e⟩:=hZ181
    subst e
    have hu:u∈a_ T q:=by rw [exs2]; simp
    have hs:u.1 < rs.length:=cx G _ (List.of_mem_zip hu).1
    have y0:=bq (g:=D.int) (cL (d:=0) hs)
    refine (iI _ rfl (fun v=> ?_) (fun v=> ?_))
    ·rw [Bool.not_eq_true'] at v
     refine (ux (rT CL rs g ts T (some (.int (q.2:Int))) (some (aC q.1)) (some (.int (sn rs q.1.2.2 (pr ++ [u])))) (some (.int (u.1:Int))) (some (.int u.2))) ?_ _ _ rfl)
     simp only [aN,v,y0,mU]
    ·rw [Bool.not_eq_false'] at v
     simp only [aN,v]) (fun ρ' hZ182=>(by obtain ⟨m,o,e⟩:=hZ182; exact (Bd _ _ _ _ _ e)))
  rw [show dz (fun pre u=> !decide (u.2 < sn rs q.1.2.2 pre)) [] (a_ T q)=inT rs q.1.2.2 (a_ T q) from lF _ []] at w
  exact w
 ·refine Ck (hZ180) fun o5 o6 o7 m o e=> ?_
  subst e
  rw [bU] at hk
  simp only [aN]
  unfold eB
  rw [hk]
 ·rw [bU] at hk
  unfold eB
  rw [hk]
end
set_option maxHeartbeats 1000000
section
variable{K:W.Frag}{CL:Addr}
theorem m_ {l:List D}:iD (some 1) none (.lst l)= .ok (.lst l.tail):=by
 show Res.ok (D.lst ((l.drop (HT.cB l.length 0 (some 1))).take (HT.cB l.length l.length none - HT.cB l.length 0 (some 1))))=_
 have e1:HT.cB l.length 0 (some 1)=min 1 l.length:=HT.rj l.length 0 1
 have e2:HT.cB l.length l.length none=l.length:=rfl
 rw [e1,e2]
 cases l with
 | nil=>rfl
 | cons a l=>
  have:min 1 (a :: l).length=1:=by rw [List.length_cons]; omega
  rw [this,List.length_cons]
  show Res.ok (D.lst (l.take (l.length+1 - 1)))=_
  rw [Nat.add_sub_cancel,List.take_length]
  rfl
noncomputable abbrev rA (CL:Addr)(rs:List Int)(g:Int)(ts:List Tr)(T:Pl)(o4 o5 o6 o7 o8:Option D):DS:=[some (aG CL rs g),some (.lst (ts.map aC)),some (.lst (T.map av)),some (.int g),o4,o5,o6,o7,o8]
noncomputable def Fx (rs:List Int)(g:Int)(ts:List Tr)(T:Pl)(s:Nat):Bool:= @decide (Ap rs g ts T s) (Classical.propDecidable _)
theorem apB_iff {rs:List Int}{g:Int}{ts:List Tr}{T:Pl}{s:Nat}:Fx rs g ts T s=true↔Ap rs g ts T s:=by unfold Fx; exact @decide_eq_true_iff _ (Classical.propDecidable _)
noncomputable def iE (rs:List Int)(g:Int)(ts:List Tr)(T:Pl):Bool:=rs.zipIdx.all fun q=>Fx rs g ts T q.2
theorem apAll_iff {rs:List Int}{g:Int}{ts:List Tr}{T:Pl}:iE rs g ts T=true↔∀ s,s < rs.length→Ap rs g ts T s:=by
 unfold iE
 rw [List.all_eq_true]
 constructor
 ·intro h s hs
  exact apB_iff.mp (h (rs[s],s) (mem_zip.mpr (cC hs)))
 ·intro h q hq
  exact apB_iff.mpr (h q.2 (d7 (mem_zip.mp hq)).1)
theorem rR {rs:List Int}{g:Int}{ts:List Tr}{T:Pl}(C:Ctx rs g ts)(hlen:T.length=ts.length)(hb:∀ r∈T,r.length≤1000):d9 K CL [aG CL rs g,.lst (ts.map aC),.lst (T.map av)]= .ok (.bl (iE rs g ts T)):=by
 unfold d9
 refine (bK rfl).trans ?_
 have e0:aJ iQ [aG CL rs g,.lst (ts.map aC),.lst (T.map av)]=[some (aG CL rs g),some (.lst (ts.map aC)),some (.lst (T.map av)),none,none,none,none,none,none]:=rfl
 rw [e0]
 unfold fN
 simp only [aN,Fl,Ij,m8,eT,fT]
 refine ju (fun _ ρ=>∃ o4 o5 o6 n m,ρ=rA CL rs g ts T o4 o5 o6 n m) (fun _ q=>Fx rs g ts T q.2) (.bl false) (Bd none none none none none rfl) (fun pre q post exs ρ hZ183=> ?_) (fun hk ρ' hZ184=> ?_) (fun hk=> ?_)
 ·refine Ck (hZ183) fun o4 o5 o6 n m e=> ?_
  subst e
  have hq:q∈rs.zipIdx:=by rw [exs]; simp
  have hz:=mem_zip.mp hq
  have hs:q.2 < rs.length:=(d7 hz).1
  have hr:rs.getD q.2 0=q.1:=by rw [List.getD_eq_getElem?_getD,hz]; rfl
  have hd:1≤apart rs g q.2:=by
   have:=fV C.ln hs
   have:=C.ln.gap
   unfold apart; omega
  refine t9 (si (K:=K) (CL:=CL) (s:=q.2) hlen hb C.few) fun l el l5 ml nl sl=> ?_
  have iff:=Ab hd ml nl sl
  have hzp:oA [.lst (l.map bv),.lst ((l.map bv).tail)]= .ok ((l.zip l.tail).map fun u=> .tup [bv u.1,bv u.2]):=by
   rw [← List.map_tail]; exact lg
  refine ⟨_,rfl,?_⟩
  simp only [aN,el,m_,hzp]
  have v:=kU (d:= .bl false) (asg:=dL 7 8) (c:=fun u:List Int×List Int=>D.tup [bv u.1,bv u.2]) (xs:=l.zip l.tail)
   (F:=ii (eY (ae (ae (ac 8) (kI 0) aA) (ae (ae (ae (ac 7) (kI 0) aA) (ac 5) aO) (ac 3) aO) sV)) (bJ (kB false)) nxt)
   (P:=fun ρ'=>∃ o4 o5 o6 n m,ρ'=rA CL rs g ts T o4 o5 o6 n m)
   (ρ:=rA CL rs g ts T (some (.int (q.2:Int))) (some (.int q.1)) (some (.lst (l.map bv))) n m)
   (fun pre ρ=>∃ n m,ρ=rA CL rs g ts T (some (.int (q.2:Int))) (some (.int q.1)) (some (.lst (l.map bv))) n m)
   (fun _ u=>nz (apart rs g q.2) u) ⟨n,m,rfl⟩ (fun pr u po exs2 ρ hZ185=>by
    obtain ⟨n,m,e⟩:=hZ185
    subst e
    have hu:u∈l.zip l.tail:=by rw [exs2]; simp
    obtain ⟨u1,u2,_⟩:=qk nl u hu
    obtain ⟨e1,_,f1⟩:=List.mem_map.mp ((ml _).mp u1)
    obtain ⟨e2,_,f2⟩:=List.mem_map.mp ((ml _).mp u2)
    have x1:aA (bv u.1) (.int 0)= .ok (.int (u.1.headD 0)):=by rw [← f1]; exact pj
    have x2:aA (bv u.2) (.int 0)= .ok (.int (u.2.headD 0)):=by rw [← f2]; exact pj
    have x3:decide (u.2.headD 0 < u.1.headD 0+q.1+g)= !nz (apart rs g q.2) u:=by
     unfold nz apart
     rw [hr,Bool.not_not,Int.add_assoc]
    refine (iI _ rfl (fun hok=> ?_) (fun hok=> ?_))
    ·rw [hok] at x3
     refine (ux (rA CL rs g ts T (some (.int (q.2:Int))) (some (.int q.1)) (some (.lst (l.map bv))) (some (bv u.1)) (some (bv u.2))) ?_ _ _ rfl)
     simp only [aN,x1,x2,x3]
    ·rw [hok] at x3
     simp only [aN,x1,x2,x3]) (fun ρ' hZ186=>(by obtain ⟨n,m,e⟩:=hZ186; exact (Bd _ _ _ _ _ e)))
  rw [bU] at v
  have eqb:(l.zip l.tail).all (fun u=>nz (apart rs g q.2) u)=Fx rs g ts T q.2:=by
   rw [Bool.eq_iff_iff,apB_iff]; exact iff
  rw [eqb] at v
  exact v
 ·refine Ck (hZ184) fun o4 o5 o6 n m e=> ?_
  subst e
  rw [bU] at hk
  simp only [aN]
  unfold iE
  rw [hk]
 ·rw [bU] at hk
  unfold iE
  rw [hk]
theorem jv {ts:List Tr}{T:Pl}(h:cF ts T=true):T.length=ts.length:=by
 unfold cF at h
 have:=congrArg List.length (of_decide_eq_true h)
 rw [List.length_map,List.length_map] at this
 exact this
theorem qd {ts:List Tr}{T:Pl}(h:cF ts T=true){q:Q}(hq:q∈ts.zipIdx):(aj T q.2).length=(ar q.1).length:=by
 have hl:=jv h
 have hz:=mem_zip.mp hq
 have hk:q.2 < ts.length:=(d7 hz).1
 unfold cF at h
 have:=congrArg (fun l:List Int=>l[q.2]?) (of_decide_eq_true h)
 simp only [List.getElem?_map] at this
 rw [hz,cn (by rw [hl]; exact hk)] at this
 have h3:((aj T q.2).length:Int)=((ar q.1).length:Int):=Option.some.inj this
 omega
theorem yK {rs:List Int}{g:Int}{ts:List Tr}{T:Pl}(C:Ctx rs g ts)(hT:T.length≤1000)(hb:∀ r∈T,r.length≤1000):eJ K CL [aG CL rs g,.lst (ts.map bO),.lst (T.map av)]= .ok (.bl (cF ts T && (eB rs ts T && iE rs g ts T))):=by
 have hf:=C.few; have ho:=C.one; have hr5:=C.ln.few
 unfold eJ
 refine (bK rfl).trans ?_
 have e0:aJ qh [aG CL rs g,.lst (ts.map bO),.lst (T.map av)]=[some (aG CL rs g),some (.lst (ts.map bO)),some (.lst (T.map av)),none]:=rfl
 rw [e0]
 unfold my
 have e1:cR K CL [aG CL rs g,.lst (ts.map bO)]= .ok (.lst (ts.map aC)):=mX C.tr (by omega) ho hf
 simp only [aN,e1,uy (K:=K) (CL:=CL) hf hT]
 cases hw:cF ts T with
 | false=>simp only [aN]
 | true=>
  have hl:=jv hw
  simp only [aN,qm (K:=K) (CL:=CL) C hl,rR (K:=K) (CL:=CL) C hl hb]
  cases eB rs ts T with
  | true=>simp only [aN]
  | false=>simp only [aN]
end
set_option maxHeartbeats 1000000
section
variable{K:W.Frag}{CL:Addr} 
noncomputable def vX (u:Nat×Int):D:= .tup [.int (u.1:Int),.int u.2]
noncomputable abbrev kR (rs:List Int)(g:Int)(ts:List Tr)(T:Pl)(vs:List (Nat×Int))(o5 o6 o7 o8 o9 o10 o11:Option D):DS:=[some (.lst (rs.map D.int)),some (.int g),some (.lst (ts.map bO)),some (.lst (T.map av)),some (.lst (vs.map vX)),o5,o6,o7,o8,o9,o10,o11]
noncomputable def Em (rs:List Int)(T:Pl)(q:Q):Bool:=decide ((aj T q.2).length=(ar q.1).length) && inT rs q.1.2.2 (a_ T q)
theorem vR {rs:List Int}{ts:List Tr}{T:Pl}(hl:T.length=ts.length):ts.zipIdx.all (Em rs T)=(cF ts T && eB rs ts T):=by
 rw [Bool.eq_iff_iff,Bool.and_eq_true,List.all_eq_true]
 constructor
 ·intro h
  refine ⟨?_,List.all_eq_true.mpr fun q hq=> ?_⟩
  ·unfold cF
   refine decide_eq_true ?_
   apply List.ext_getElem
   ·rw [List.length_map,List.length_map]; exact hl
   ·intro i h1 h2
    rw [List.length_map] at h1 h2
    have hq:(ts[i],i)∈ts.zipIdx:=mem_zip.mpr (cC h2)
    have:=h _ hq
    unfold Em at this
    rw [Bool.and_eq_true] at this
    have e:=of_decide_eq_true this.1
    have hr:aj T i=T[i]:=by
     have:=cn h1
     rw [cC h1] at this
     exact (Option.some.inj this).symm
    rw [List.getElem_map,List.getElem_map,← hr]
    exact congrArg Int.ofNat e
  ·have:=h q hq
   unfold Em at this
   rw [Bool.and_eq_true] at this
   exact this.2
 ·rintro ⟨h1,h2⟩ q hq
  unfold Em
  rw [Bool.and_eq_true]
  exact ⟨decide_eq_true (qd h1 hq),List.all_eq_true.mp h2 q hq⟩
theorem lh {α β:Type}{f:α→List β}:∀ (l:List α),(∀ x∈l,(f x).length≤5)→(l.flatMap f).length≤5 * l.length
 | [],_=>by simp
 | x :: l,h=>by
  rw [List.flatMap_cons,List.length_append,List.length_cons]
  have:=h x (List.mem_cons_self ..)
  have:=lh l fun y hy=>h y (cN hy)
  omega
theorem mJ {a b:Nat}:((a:Int) == (b:Int))=decide (a=b):=by
 by_cases h:a=b
 ·subst h; simp
 ·rw [decide_eq_false h,beq_eq_false_iff_ne.mpr (by omega)]
theorem kY {rs:List Int}{g:Int}{ts:List Tr}{T:Pl}{q:Q}(C:Ctx rs g ts)(hq:q∈ts.zipIdx):(a_ T q).length≤5:=by
 have h1:=eA (C.good hq)
 have h2:=C.ln.few
 unfold a_
 rw [List.length_zip]
 omega
theorem uD {rs:List Int}{g:Int}{ts:List Tr}{T:Pl}(C:Ctx rs g ts)(hT:T.length≤1000)(hb:∀ r∈T,r.length≤1000) :
  cW K CL [.lst (rs.map D.int),.int g,.lst (ts.map bO),.lst (T.map av)]= .ok (.bl (cF ts T && (eB rs ts T && iE rs g ts T))):=by
 have hf:=C.few; have ho:=C.one; have hr5:=C.ln.few
 unfold cW
 refine (bK rfl).trans ?_
 have e0:aJ iP [.lst (rs.map D.int),.int g,.lst (ts.map bO),.lst (T.map av)]=[some (.lst (rs.map D.int)),some (.int g),some (.lst (ts.map bO)),some (.lst (T.map av)),none,none,none,none,none,none,none,none]:=rfl
 rw [e0]
 unfold fM
 by_cases hl:T.length=ts.length
 ·have q1:decide (T.length=ts.length)=true:=decide_eq_true hl
  simp only [aN,mJ,q1,dw (show ts.length < 1000000 by omega),lI]
  refine ju (fun pre ρ=>∃ Q s n m,ρ=kR rs g ts T (pre.flatMap (a_ T)) Q s n m none none none) (fun _ q=>Em rs T q) (.bl false) ⟨none,none,none,none,rfl⟩ (fun pre q post M ρ hZ187=> ?_) (fun hk O ⟨Q,s,n,m,e⟩=> ?_) (fun hk=> ?_)
  ·obtain ⟨Q,s,n,m,e⟩:=hZ187
   subst e
   have hq:q∈ts.zipIdx:=by rw [M]; simp
   have hpl:pre.length≤5:=by
    have:=congrArg List.length M
    rw [List.length_zipIdx,List.length_append] at this
    omega
   have hpz:(pre.flatMap (a_ T)).length≤25:=by
    have:=lh (f:=a_ T) pre fun q' hq'=>kY C (by rw [M]; exact List.mem_append_left _ hq')
    omega
   have G:=C.good hq
   have hz:=mem_zip.mp hq
   have hkT:q.2 < T.length:=by rw [hl]; exact (d7 hz).1
   have L:=bq (g:=av) (cn hkT)
   have hit:=bq (g:=bO) hz
   have e2:aA (bO q.1) (.int 2)= .ok (.int q.1.2.2):=pk
   have hway:bf K CL [bO q.1]= .ok (aC q.1):=pG G (by omega)
   have hlr:ba [av (aj T q.2)]= .ok (.int ((aj T q.2).length:Int)):=cM
   have hlp:ba [aC q.1]= .ok (.int ((ar q.1).length:Int)):=cM
   refine ⟨_,rfl,?_⟩
   by_cases N:(aj T q.2).length=(ar q.1).length
   ·have q2:decide ((aj T q.2).length=(ar q.1).length)=true:=decide_eq_true N
    have hzl:(a_ T q).length=(ar q.1).length:=by unfold a_; rw [List.length_zip,N,Nat.min_self]
    have hrg:oS [.int ((ar q.1).length:Int)]= .ok ((a_ T q).zipIdx.map fun v=>D.int (v.2:Int)):=by
     rw [← hzl,dw (by have:=kY (T:=T) C hq; omega),lI]
    unfold Em
    rw [q2,Bool.true_and]
    simp only [aN,hit,hway,L,hlr,hlp,mJ,q2,e2,hrg]
    have y:=kU (d:= .bl false) (asg:=bw 8) (c:=fun v:(Nat×Int)×Nat=>D.int (v.2:Int)) (xs:=(a_ T q).zipIdx)
     (F:=ax (ii (eY (ae (ae (ae (ac 3) (ac 5) aA) (ac 8) aA) (ac 7) sV)) (bJ (bZ aP (kB false))) nxt)
  (ax (aQ 7 (bZ aP (ae (ae (ae (ac 3) (ac 5) aA) (ac 8) aA) (ae (ac 0) (ae (ac 6) (ac 8) aA) aA) aO)))
  (k9 4 (bZ aP (fK (pC (ae (ac 6) (ac 8) aA) (pC (ae (ae (ac 3) (ac 5) aA) (ac 8) aA) pN)))))))
     (P:=fun O=>∃ Q s n m,O=kR rs g ts T ((pre ++ [q]).flatMap (a_ T)) Q s n m none none none)
     (ρ:=kR rs g ts T (pre.flatMap (a_ T)) (some (.int (q.2:Int))) (some (aC q.1)) (some (.int q.1.2.2)) m none none none)
     (fun H ρ=>∃ m,ρ=kR rs g ts T (pre.flatMap (a_ T) ++ H.map Prod.fst) (some (.int (q.2:Int))) (some (aC q.1)) (some (.int (sn rs q.1.2.2 (H.map Prod.fst)))) m none none none)
     (fun H v=> !decide (v.1.2 < sn rs q.1.2.2 (H.map Prod.fst))) ⟨m,by rw [List.map_nil,List.append_nil]; rfl⟩ (fun H v po I ρ hZ189=>by
      obtain ⟨m,e⟩:=hZ189
      subst e
      have hv:v∈(a_ T q).zipIdx:=by rw [I]; simp
      have hvz:=mem_zip.mp hv
      obtain ⟨a1,a2⟩:=List.getElem?_zip_eq_some.mp hvz
      have hs:v.1.1 < rs.length:=cx G _ (List.mem_of_getElem? a1)
      have y0:=bq (g:=D.int) (cL (d:=0) hs)
      have y1:aA (av (aj T q.2)) (.int (v.2:Int))= .ok (.int v.1.2):=bq (g:=D.int) a2
      have y2:aA (aC q.1) (.int (v.2:Int))= .ok (.int (v.1.1:Int)):=vM a1
      have hprl:H.length≤5:=by
       have:=congrArg List.length I
       rw [List.length_zipIdx,List.length_append] at this
       have:=kY (T:=T) C hq
       omega
      refine ⟨_,rfl,fun E=> ?_,fun E=> ?_⟩
      ·rw [Bool.not_eq_true'] at E
       simp only [aN,L,y1,E,y2,y0]
       refine ⟨_,qy (d:=vX v.1) rfl (by simp only [aN,L,y1,y2]; rfl) (by rw [List.length_map,List.length_append,List.length_map]; omega),some (.int (v.2:Int)),?_⟩
       have e1:(H ++ [v]).map Prod.fst=H.map Prod.fst ++ [v.1]:=by rw [List.map_append]; rfl
       rw [e1,mU,← List.append_assoc]
       have e2:((pre.flatMap (a_ T) ++ H.map Prod.fst) ++ [v.1]).map vX=(pre.flatMap (a_ T) ++ H.map Prod.fst).map vX ++ [vX v.1]:=by rw [List.map_append]; rfl
       show _=[_,_,_,_,some (D.lst (((pre.flatMap (a_ T) ++ H.map Prod.fst) ++ [v.1]).map vX)),_,_,_,_,_,_,_]
       rw [e2]
       rfl
      ·rw [Bool.not_eq_false'] at E
       simp only [aN,L,y1,E]) (fun O ⟨m,e⟩=>by
      subst e
      refine ⟨some (.int (q.2:Int)),some (aC q.1),some (.int (sn rs q.1.2.2 (a_ T q))),m,?_⟩
      rw [List.zipIdx_map_fst,List.flatMap_append,List.flatMap_singleton])
    have eok:dz (fun H v=> !decide (v.1.2 < sn rs q.1.2.2 (H.map Prod.fst))) [] (a_ T q).zipIdx=inT rs q.1.2.2 (a_ T q):=by
     have:=pQ (f:=(Prod.fst:(Nat×Int)×Nat→Nat×Int)) (p:=fun pre u=> !decide (u.2 < sn rs q.1.2.2 pre)) (a_ T q).zipIdx []
     rw [List.zipIdx_map_fst,List.map_nil,lF] at this
     exact this
    rw [eok] at y
    exact y
   ·have q2:decide ((aj T q.2).length=(ar q.1).length)=false:=decide_eq_false N
    unfold Em
    rw [q2,Bool.false_and]
    refine ⟨fun z=>(by cases z),fun _=> ?_⟩
    simp only [aN,hit,hway,L,hlr,hlp,mJ,q2]
  ·subst e
   rw [bU,vR hl] at hk
   rw [← Bool.and_assoc,hk,Bool.true_and]
   have hvl:(gP ts T).length≤25:=by
    have:=lh (f:=a_ T) ts.zipIdx fun q hq=>kY C hq
    rw [List.length_zipIdx] at this
    unfold gP
    omega
   have hvs:∀ u∈gP ts T,u.1 < rs.length:=fun u hu=>by
    obtain ⟨q,hq,h⟩:=List.mem_flatMap.mp hu
    exact cx (C.good hq) _ (List.of_mem_zip h).1
   have efl:ts.zipIdx.flatMap (a_ T)=gP ts T:=rfl
   rw [efl]
   simp only [aN,dw (show (gP ts T).length < 1000000 by omega)]
   refine ju (fun _ ρ=>∃ o9 w x,ρ=kR rs g ts T (gP ts T) Q s n m o9 w x) (fun _ a=>(List.range a).all fun b=>Fc rs g ((gP ts T).getD a (0,0)) ((gP ts T).getD b (0,0))) (.bl false) ⟨none,none,none,rfl⟩ (fun pre a post M ρ hZ191=> ?_) (fun J O ⟨o9,w,x,e⟩=> ?_) (fun J=> ?_)
   ·obtain ⟨o9,w,x,e⟩:=hZ191
    subst e
    have ha:a < (gP ts T).length:=List.mem_range.mp (by rw [M]; simp)
    refine ⟨_,rfl,?_⟩
    simp only [aN,dw (show a < 1000000 by omega)]
    have xa:=bq (g:=vX) (cL (d:=(0,0)) ha)
    have ya:=hvs _ (getD_mem (d:=(0,0)) ha)
    generalize (gP ts T).getD a (0,0)=A at xa ya
    have y0:=bq (g:=D.int) (cL (d:=0) ya)
    have A0:aA (vX A) (.int 0)= .ok (.int (A.1:Int)):=pj
    have A1:aA (vX A) (.int 1)= .ok (.int A.2):=vF
    have y:=kU (d:= .bl false) (asg:=bw 10) (c:=fun b:Nat=>D.int (b:Int)) (xs:=List.range a)
     (F:=ax (aQ 11 (rK 0 (c1 (ae (ae (ae (ac 4) (ac 9) aA) (kI 1) aA) (ae (ae (ac 4) (ac 10) aA) (kI 1) aA) rC) wz)))
  (ii (wA (eY (ae (ae (ae (ac 4) (ac 9) aA) (kI 0) aA) (ae (ae (ac 4) (ac 10) aA) (kI 0) aA) xQ)) (eY (ae (ac 11) (ae (ae (ac 0) (ae (ae (ac 4) (ac 9) aA) (kI 0) aA) aA) (ac 1) aO) sV))) (bJ (bZ aP (kB false))) nxt))
     (P:=fun O=>∃ o9 w x,O=kR rs g ts T (gP ts T) Q s n m o9 w x)
     (ρ:=kR rs g ts T (gP ts T) Q s n m (some (.int (a:Int))) w x)
     (fun _ ρ=>∃ w x,ρ=kR rs g ts T (gP ts T) Q s n m (some (.int (a:Int))) w x)
     (fun _ b=>Fc rs g A ((gP ts T).getD b (0,0))) ⟨w,x,rfl⟩ (fun H b po I ρ hZ193=>by
      obtain ⟨w,x,e⟩:=hZ193
      subst e
      have hb:b < a:=List.mem_range.mp (by rw [I]; simp)
      have xb:=bq (g:=vX) (cL (d:=(0,0)) (show b < (gP ts T).length by omega))
      generalize (gP ts T).getD b (0,0)=B at xb
      have B0:aA (vX B) (.int 0)= .ok (.int (B.1:Int)):=pj
      have B1:aA (vX B) (.int 1)= .ok (.int B.2):=vF
      have ab:wz [.int (A.2 - B.2)]= .ok (.int (FO A.2 B.2)):=rfl
      have key:∀ c:Bool,Fc rs g A B=c→(if (A.1 == B.1)=true then Res.ok (decide (FO A.2 B.2 < rs.getD A.1 0+g)) else .ok false)= .ok (!c):=fun c hc=>by
       unfold Fc at hc
       cases q:A.1 == B.1 with
       | true=>rw [q,Bool.true_and] at hc; rw [if_pos rfl,← hc,Bool.not_not]
       | false=>rw [q,Bool.false_and] at hc; rw [if_neg Bool.false_ne_true,← hc]; rfl
      refine ⟨_,rfl,fun E=> ?_,fun E=> ?_⟩
      ·refine ⟨kR rs g ts T (gP ts T) Q s n m (some (.int (a:Int))) (some (.int (b:Int))) (some (.int (FO A.2 B.2))),?_,_,_,rfl⟩
       simp only [aN,xa,xb,A0,A1,B0,B1,ab,iW,mI,y0,key _ E]
      ·simp only [aN,xa,xb,A0,A1,B0,B1,ab,iW,mI,y0,key _ E]) (fun O hZ194=>(by obtain ⟨w,x,e⟩:=hZ194; exact ⟨_,_,_,e⟩))
    rw [bU] at y
    exact y
   ·subst e
    rw [bU,rQ,wv C.tr,← apAll_iff] at J
    simp only [aN,J]
   ·rw [bU] at J
    have:iE rs g ts T=false:=by
     cases q:iE rs g ts T with
     | false=>rfl
     | true=>
      rw [apAll_iff,← wv C.tr,← rQ] at q
      rw [q] at J
      cases J
    rw [this]
  ·rw [bU,vR hl] at hk
   rw [← Bool.and_assoc,hk,Bool.false_and]
 ·have q1:decide (T.length=ts.length)=false:=decide_eq_false hl
  have q2:cF ts T=false:=by
   cases q:cF ts T with
   | false=>rfl
   | true=>exact absurd (jv q) hl
  simp only [aN,mJ,q1,q2]
end
set_option maxHeartbeats 1000000
theorem tL {rs:List Int}{g:Int}{ts:List Tr}(C:Ctx rs g ts):∀ (n:Nat) (p:Pl),Inv1 ts p→n+(p.map List.length).sum=26→Inv1 ts (run rs g ts n p)∧bX ts (run rs g ts n p)=[]
 | 0,p,I,h=>by
  have:=zP I C.tr C.ln.few C.few
  omega
 | n+1,p,I,h=>by
  cases hc:bX ts p with
  | nil=>rw [oh hc]; exact ⟨I,hc⟩
  | cons q qs=>
   rw [oi hc]
   have hm:bQ (f2 rs g ts p) q qs∈bX ts p:=by rw [hc]; exact kH _ _ _
   have hz:=mem_zip.mp (List.mem_filter.mp hm).1
   have hk:(bQ (f2 rs g ts p) q qs).2 < p.length:=by rw [I.len]; exact (d7 hz).1
   refine tL C n _ (nC I hm) ?_
   unfold step
   rw [rD hk]
   omega
noncomputable abbrev Vt:=Nat×Nat
section
variable(vs:List Vt)(W:Vt→List (Vt×Int))(ready:Vt→Int)
noncomputable def b9 (turn:List Vt):List Vt:=vs.filter fun v=> !turn.contains v && ((W v).all fun u=>turn.contains u.1)
noncomputable def fq:Nat→List Vt→List Vt
 | 0,t=>t
 | n+1,t=>if b9 vs W t=[] then t else fq n (t ++ b9 vs W t)
structure Turn (t:List Vt):Prop where
 nd:t.Nodup
 sub:∀ v∈t,v∈vs
 top:∀ a v b,t=a ++ v :: b→∀ u∈W v,u.1∈a
noncomputable def CA (e:Vt→Int)(v:Vt):Vt→Int:=fun x=>if x=v then vO (ready v) ((W v).map fun u=>e u.1+u.2) else e x
noncomputable def gw (t:List Vt):Vt→Int:=t.foldl (CA W ready) (fun _=>0)
structure Sol (τ:Vt→Int):Prop where
 rd:∀ v∈vs,ready v≤τ v
 wt:∀ v∈vs,∀ u∈W v,τ u.1+u.2≤τ v
end
theorem wl {α:Type}{P:List α→Prop}(h0:P [])(h1:∀ t x,P t→P (t ++ [x]))(l:List α):P l:=by
 have h:∀ r:List α,P r.reverse:=fun r=>by
  induction r with
  | nil=>exact h0
  | cons x r ih=>rw [List.reverse_cons]; exact h1 _ _ ih
 have:=h l.reverse
 rwa [List.reverse_reverse] at this
theorem fB {α:Type}[DecidableEq α]:∀ {t vs:List α},t.Nodup→(∀ v∈t,v∈vs)→t.length≤vs.length
 | [],_,_,_=>Nat.zero_le _
 | a :: t,vs,nd,h=>by
  obtain ⟨n1,n2⟩:=List.nodup_cons.mp nd
  have ha:=h a (List.mem_cons_self ..)
  have ih:=fB (vs:=vs.erase a) n2 fun v hv=>(List.mem_erase_of_ne (fun (e:v=a)=>n1 (e ▸ hv))).mpr (h v (cN hv))
  rw [List.length_erase_of_mem ha] at ih
  have:=List.length_pos_of_mem ha
  rw [List.length_cons]
  omega
section
variable{vs:List Vt}{W:Vt→List (Vt×Int)}{ready:Vt→Int}
theorem mem_freed {t:List Vt}{v:Vt}:v∈b9 vs W t↔v∈vs∧v∉t∧∀ u∈W v,u.1∈t:=by
 unfold b9
 rw [List.mem_filter,Bool.and_eq_true,List.all_eq_true]
 simp
theorem oo:Turn vs W [] where
 nd:=List.nodup_nil
 sub:=fun v h=>nomatch h
 top:=fun a v b e=>by cases a <;> cases e
theorem xG {α:Type}{t f a b:List α}{v:α}(e:t ++ f=a ++ v :: b):(∃ c,t=a ++ v :: c)∨∃ c,a=t ++ c∧f=c ++ v :: b:=by
 rcases List.append_eq_append_iff.mp e with ⟨c,h1,h2⟩ | ⟨c,h1,h2⟩
 ·exact .inr ⟨c,h1,h2⟩
 ·cases c with
  | nil=>exact .inr ⟨[],by simpa using h1.symm,by simpa using h2.symm⟩
  | cons x c=>
   simp at h2
   obtain ⟨rfl,h3⟩:=h2
   exact .inl ⟨c,h1⟩
theorem qb {t:List Vt}(hv:vs.Nodup)(h:Turn vs W t):Turn vs W (t ++ b9 vs W t):=by
 refine ⟨List.nodup_append.mpr ⟨h.nd,hv.filter _,fun a ha b hb e=> ?_⟩,fun v m=> ?_,fun a v b e u hu=> ?_⟩
 ·subst e; exact (mem_freed.mp hb).2.1 ha
 ·rcases List.mem_append.mp m with z | z
  ·exact h.sub v z
  ·exact (mem_freed.mp z).1
 ·rcases xG e with ⟨c,z⟩ | ⟨c,z1,z2⟩
  ·exact h.top a v c z u hu
  ·rw [z1]
   exact List.mem_append_left _ ((mem_freed.mp (by rw [z2]; exact List.mem_append_right _ (List.mem_cons_self ..))).2.2 u hu)
theorem lu (hv:vs.Nodup):∀ (n:Nat) (t:List Vt),Turn vs W t→vs.length < n+t.length→Turn vs W (fq vs W n t)∧b9 vs W (fq vs W n t)=[]
 | 0,t,h,hl=>by have:=fB h.nd h.sub; omega
 | n+1,t,h,hl=>by
  unfold fq
  by_cases e:b9 vs W t=[]
  ·rw [if_pos e]; exact ⟨h,e⟩
  ·rw [if_neg e]
   refine lu hv n _ (qb hv h) ?_
   have:=List.length_pos_iff.mpr e
   rw [List.length_append]
   omega
theorem Turn.pre {a b:List Vt}(h:Turn vs W (a ++ b)):Turn vs W a:=⟨(List.nodup_append.mp h.nd).1,fun v m=>h.sub v (List.mem_append_left _ m),fun x v y e u hu=>h.top x v (y ++ b) (by rw [e]; simp) u hu⟩
theorem nI {t:List Vt}{v:Vt}:gw W ready (t ++ [v])=CA W ready (gw W ready t) v:=by unfold gw; rw [List.foldl_append]; rfl
theorem qS:∀ {t:List Vt},Turn vs W t→∀ v∈t,gw W ready t v=vO (ready v) ((W v).map fun u=>gw W ready t u.1+u.2):=by
 intro t
 induction t using wl with
 | h0=>intro _ v m; cases m
 | h1 t x ih=>
  intro h v m
  have hx:x∉t:=fun z=>(List.nodup_append.mp h.nd).2.2 x z x (List.mem_singleton_self x) rfl
  have wx:∀ u∈W x,u.1∈t:=fun u hu=>h.top t x [] rfl u hu
  have same:∀ y∈t,CA W ready (gw W ready t) x y=gw W ready t y:=fun y hy=>by unfold CA; rw [if_neg (fun (z:y=x)=>hx (z ▸ hy))]
  rw [nI]
  have key:∀ y,(∀ u∈W y,u.1∈t)→((W y).map fun u=>CA W ready (gw W ready t) x u.1+u.2)=(W y).map fun u=>gw W ready t u.1+u.2:=fun y hy=>List.map_congr_left fun u hu=>by rw [same u.1 (hy u hu)]
  rcases List.mem_append.mp m with z | z
  ·rw [same v z,ih h.pre v z]
   obtain ⟨a,b,e⟩:=List.append_of_mem z
   rw [key v fun u hu=>by rw [e]; exact List.mem_append_left _ (h.pre.top a v b e u hu)]
  ·have e:=List.mem_singleton.mp z
   subst e
   rw [key v wx]
   unfold CA
   rw [if_pos rfl]
theorem Ee {t:List Vt}(h:Turn vs W t){v:Vt}(m:v∈t):ready v≤gw W ready t v:=by
 rw [qS h v m]; exact (d_ _ _).1.1
theorem Ef {t:List Vt}(h:Turn vs W t){v:Vt}(m:v∈t){u:Vt×Int}(hu:u∈W v):gw W ready t u.1+u.2≤gw W ready t v:=by
 rw [qS h v m]
 exact (d_ _ _).1.2 _ (List.mem_map_of_mem hu)
theorem xm {t:List Vt}(h:Turn vs W t){v:Vt}(m:v∈t):gw W ready t v=ready v∨∃ u∈W v,gw W ready t v=gw W ready t u.1+u.2:=by
 rcases (d_ ((W v).map fun u=>gw W ready t u.1+u.2) (ready v)).2 with z | z
 ·exact .inl ((qS h v m).trans z)
 ·obtain ⟨u,hu,e⟩:=List.mem_map.mp z
  exact .inr ⟨u,hu,(qS h v m).trans e.symm⟩
theorem Ed {τ:Vt→Int}(s:Sol vs W ready τ){t:List Vt}(h:Turn vs W t):∀ v∈t,gw W ready t v≤τ v:=by
 have go:∀ (a b:List Vt),t=a ++ b→∀ v∈a,gw W ready t v≤τ v:=by
  intro a
  induction a using wl with
  | h0=>intro b _ v m; cases m
  | h1 a x ih=>
   intro b e v m
   rcases List.mem_append.mp m with z | z
   ·exact ih ([x] ++ b) (by rw [e]; simp) v z
   ·have ex:=List.mem_singleton.mp z
    subst ex
    have hv:v∈t:=by rw [e]; exact List.mem_append_left _ m
    have e':t=a ++ v :: b:=by rw [e]; simp
    rcases xm (ready:=ready) h hv with q | ⟨u,hu,q⟩
    ·rw [q]; exact s.rd v (h.sub v hv)
    ·have h1:=ih ([v] ++ b) (by rw [e]; simp) u.1 (h.top a v b e' u hu)
     have h2:=s.wt v (h.sub v hv) u hu
     omega
 exact fun v m=>go t [] (by simp) v m
theorem sF {τ:Vt→Int}(s:Sol vs W ready τ)(h0:∀ v∈vs,0≤ready v)(hw:∀ v∈vs,∀ u∈W v,1≤u.2∧u.1∈vs){t:List Vt}(he:b9 vs W t=[]):∀ v∈vs,v∈t:=by
 have go:∀ n:Nat,∀ v∈vs,(τ v).toNat≤n→v∈t:=by
  intro n
  induction n with
  | zero=>
   intro v E hn
   apply Classical.byContradiction
   intro nt
   have:v∈b9 vs W t:=mem_freed.mpr ⟨E,nt,fun u hu=>by
    exfalso
    have h1:=s.wt v E u hu
    have h2:=hw v E u hu
    have h3:=s.rd u.1 h2.2
    have h4:=h0 u.1 h2.2
    omega⟩
   rw [he] at this; cases this
  | succ n ih=>
   intro v E hn
   apply Classical.byContradiction
   intro nt
   have:v∈b9 vs W t:=mem_freed.mpr ⟨E,nt,fun u hu=>by
    have h1:=s.wt v E u hu
    have h2:=hw v E u hu
    have h3:=s.rd u.1 h2.2
    have h4:=h0 u.1 h2.2
    exact ih u.1 h2.2 (by omega)⟩
   rw [he] at this; cases this
 exact fun v E=>go _ v E (Nat.le_refl _)
theorem tU {t:List Vt}(h:Turn vs W t)(hf:∀ v∈vs,v∈t):Sol vs W ready (gw W ready t):=⟨fun v hv=>Ee h (hf v hv),fun v hv u hu=>Ef h (hf v hv) hu⟩
end
set_option maxHeartbeats 1000000
theorem sH {rs:List Int}:∀ {l:List (Nat×Int)} {r:Int} {u:Nat×Int},inT rs r (l ++ [u])=(inT rs r l && !decide (u.2 < sn rs r l))
 | [],r,u=>by
  show (!decide (u.2 < r) && inT rs _ [])=(true && !decide (u.2 < r))
  rw [Bool.true_and]; exact Bool.and_true _
 | x :: l,r,u=>by
  show (!decide (x.2 < r) && inT rs (x.2+rs.getD x.1 0) (l ++ [u]))=(!decide (x.2 < r) && inT rs (x.2+rs.getD x.1 0) l && !decide (u.2 < sn rs (x.2+rs.getD x.1 0) l))
  rw [sH,Bool.and_assoc]
theorem zJ {rs:List Int}{p:Pl}{q:Q}(h:(aj p q.2).length≤(ar q.1).length):sn rs q.1.2.2 (a_ p q)=there rs p q:=by
 unfold a_ there
 cases e:(aj p q.2).getLast? with
 | none=>
  rw [List.getLast?_eq_none_iff.mp e]
  simp [sn]
 | some m=>
  obtain ⟨pre,e2⟩:=List.getLast?_eq_some_iff.mp e
  rw [e2] at h ⊢
  have hl:pre.length < (ar q.1).length:=by rw [List.length_append] at h; simp at h; omega
  rw [kZ (cC hl),mU]
  dsimp only
  rw [List.length_append]
  show m+_=m+rs.getD ((ar q.1).getD (pre.length+1 - 1) 0) 0
  rw [Nat.add_sub_cancel,List.getD_eq_getElem?_getD,List.getD_eq_getElem?_getD,List.getD_eq_getElem?_getD,cC hl]
  rfl
structure InvK (rs:List Int)(g:Int)(ts:List Tr)(p:Pl):Prop where
 tm:∀ q∈ts.zipIdx,inT rs q.1.2.2 (a_ p q)=true
 ap:∀ s,Ap rs g ts p s
theorem nk {rs:List Int}{g:Int}{ts:List Tr}{p:Pl}{q:Q}(I:Inv1 ts p)(hq:q∈bX ts p){s:Nat}{e:Int×Nat}(h:e∈cZ ts (step rs g ts p q) s):e∈cZ ts p s∨(e.2=q.2∧e.1=cT rs g ts p q∧s=b8 p q):=by
 obtain ⟨h1,h2⟩:=List.mem_filter.mp hq
 have hz:=mem_zip.mp h1
 have hkp:q.2 < p.length:=by rw [I.len]; exact (d7 hz).1
 have hlt:(aj p q.2).length < (ar q.1).length:=of_decide_eq_true h2
 obtain ⟨m,k⟩:=e
 obtain ⟨t,ht,hm⟩:=ent_mem.mp h
 have er:aj (step rs g ts p q) k=if k=q.2 then aj p q.2 ++ [cT rs g ts p q] else aj p k:=kO hkp
 rw [er] at hm
 by_cases hk:k=q.2
 ·subst hk
  rw [hz] at ht
  cases ht
  rw [if_pos rfl,im (wo (ts:=ts) hlt)] at hm
  rcases List.mem_append.mp hm with z | z
  ·exact .inl (ent_mem.mpr ⟨q.1,hz,z⟩)
  ·by_cases hs:b8 p q=s
   ·rw [if_pos hs] at z
    exact .inr ⟨rfl,List.mem_singleton.mp z,hs.symm⟩
   ·rw [if_neg hs] at z; cases z
 ·rw [if_neg hk] at hm
  exact .inl (ent_mem.mpr ⟨t,ht,hm⟩)
theorem w_ {rs:List Int}{g:Int}{ts:List Tr}{p:Pl}{q:Q}(I:Inv1 ts p)(J:InvK rs g ts p)(hq:q∈bX ts p):InvK rs g ts (step rs g ts p q):=by
 obtain ⟨h1,h2⟩:=List.mem_filter.mp hq
 have hz:=mem_zip.mp h1
 have hkp:q.2 < p.length:=by rw [I.len]; exact (d7 hz).1
 have hlt:(aj p q.2).length < (ar q.1).length:=of_decide_eq_true h2
 refine ⟨fun u hu=> ?_,fun s e he e' he' hne=> ?_⟩
 ·have er:aj (step rs g ts p q) u.2=if u.2=q.2 then aj p q.2 ++ [cT rs g ts p q] else aj p u.2:=kO hkp
  have h0:=J.tm u hu
  unfold a_ at h0 ⊢
  rw [er]
  by_cases hk:u.2=q.2
  ·have hu':=mem_zip.mp hu
   rw [hk,hz] at hu'
   have eu:q.1=u.1:=Option.some.inj hu'
   rw [if_pos hk,← eu,kZ (wo (ts:=ts) hlt),sH]
   have e2:=zJ (rs:=rs) (I.rows q h1)
   unfold a_ at e2
   rw [hk,← eu] at h0
   rw [h0,e2,Bool.true_and]
   have:¬ (cT rs g ts p q < there rs p q):=by unfold cT; omega
   simp [this]
  ·rw [if_neg hk]; exact h0
 ·have near:∀ e∈cZ ts p (b8 p q),e.1+apart rs g (b8 p q)≤cT rs g ts p q:=fun e he=>by
   have:e.1+apart rs g (b8 p q)≤free rs g ts p (b8 p q):=(d_ _ _).1.2 _ (List.mem_map_of_mem he)
   unfold cT; omega
  rcases nk I hq he with z | ⟨z1,z2,z3⟩
  ·rcases nk I hq he' with y | ⟨y1,y2,y3⟩
   ·exact J.ap s e z e' y hne
   ·subst y3; rw [y2]; exact .inl (near e z)
  ·rcases nk I hq he' with y | ⟨y1,y2,y3⟩
   ·subst z3; rw [z2]; exact .inr (near e' y)
   ·exact absurd (z1.trans y1.symm) hne
theorem A_ {rs:List Int}{g:Int}{ts:List Tr}:InvK rs g ts (p0 ts):=by
 refine ⟨fun q _=> ?_,fun s e he=> ?_⟩
 ·unfold a_; rw [oe]; simp [inT]
 ·obtain ⟨m,k⟩:=e
  obtain ⟨t,_,hm⟩:=ent_mem.mp he
  rw [oe] at hm
  simp [bb] at hm
theorem sI {rs:List Int}{g:Int}{ts:List Tr}:∀ (n:Nat) (p:Pl),Inv1 ts p→InvK rs g ts p→InvK rs g ts (run rs g ts n p)
 | 0,p,_,J=>J
 | n+1,p,I,J=>by
  cases hc:bX ts p with
  | nil=>rw [oh hc]; exact J
  | cons q qs=>
   rw [oi hc]
   have hm:bQ (f2 rs g ts p) q qs∈bX ts p:=by rw [hc]; exact kH _ _ _
   exact sI n _ (nC I hm) (w_ I J hm)
structure Keeps (rs:List Int)(g:Int)(ts:List Tr)(T:Pl):Prop where
 len:T.length=ts.length
 row:∀ q∈ts.zipIdx,(aj T q.2).length=(ar q.1).length
 tm:∀ q∈ts.zipIdx,inT rs q.1.2.2 (a_ T q)=true
 ap:∀ s,s < rs.length→Ap rs g ts T s
theorem xi {rs:List Int}{g:Int}{ts:List Tr}(C:Ctx rs g ts):Keeps rs g ts (run rs g ts 26 (p0 ts)):=by
 obtain ⟨I,hc⟩:=tL C 26 (p0 ts) uv (by rw [u5])
 have J:=sI 26 (p0 ts) uv (A_ (rs:=rs) (g:=g))
 refine ⟨I.len,fun q hq=> ?_,J.tm,fun s _=>J.ap s⟩
 have h1:=I.rows q hq
 apply Classical.byContradiction
 intro hn
 have:q∈bX ts (run rs g ts 26 (p0 ts)):=List.mem_filter.mpr ⟨hq,decide_eq_true (by omega)⟩
 rw [hc] at this
 cases this
noncomputable def eC (ts:List Tr)(T:Pl)(v:Vt):Int:=match ts[v.1]? with
 | some t=>(bb (ar t) (aj T v.1) v.2).headD 0
 | none=>0
noncomputable def az (ts:List Tr):List Vt:=ts.zipIdx.flatMap fun q=>(ar q.1).map fun s=>(q.2,s)
theorem mem_visits {ts:List Tr}{v:Vt}:v∈az ts↔∃ t,ts[v.1]?=some t∧v.2∈ar t:=by
 unfold az
 rw [List.mem_flatMap]
 constructor
 ·intro hZ32
  obtain ⟨q,hq,h⟩:=hZ32
  obtain ⟨s,hs,e⟩:=List.mem_map.mp h
  subst e
  exact ⟨q.1,mem_zip.mp hq,hs⟩
 ·intro hZ33
  obtain ⟨t,ht,h⟩:=hZ33
  exact ⟨(t,v.1),mem_zip.mpr ht,List.mem_map.mpr ⟨v.2,h,rfl⟩⟩
theorem eK {ts:List Tr}:(az ts).Nodup:=by
 unfold az
 have h1:ts.zipIdx.Pairwise fun a b=>a.2≠b.2:=by
  have:=eL (ts:=ts) (f:=fun _=>true)
  rwa [List.filter_eq_self.mpr (fun _ _=>rfl)] at this
 rw [List.nodup_iff_pairwise_ne,List.pairwise_flatMap]
 refine ⟨fun q _=> ?_,h1.imp fun {a b} hab x hx y hy e=> ?_⟩
 ·rw [← List.nodup_iff_pairwise_ne]
  exact List.Pairwise.map _ (fun a b (h:a≠b) e=>h (Prod.mk.inj e).2) (cu (t:=q.1))
 ·obtain ⟨s,_,rfl⟩:=List.mem_map.mp hx
  obtain ⟨s',_,rfl⟩:=List.mem_map.mp hy
  exact hab (Prod.mk.inj e).1
theorem xz {w:List Nat}{row:List Int}{s:Nat}(hw:w.Nodup)(hl:row.length=w.length)(hs:s∈w):∃ m,bb w row s=[m]∧(s,m)∈w.zip row:=by
 have h1:=eR (row:=row) (s:=s) hw
 obtain ⟨i,hi,e⟩:=List.getElem_of_mem hs
 have hi':i < row.length:=by rw [hl]; exact hi
 have hz:(s,row[i])∈w.zip row:=by
  have:(w.zip row)[i]?=some (w[i],row[i]):=by rw [List.getElem?_zip_eq_some]; exact ⟨cC hi,cC hi'⟩
  rw [e] at this
  exact List.mem_of_getElem? this
 have hm:=pair_mem.mpr hz
 match q:bb w row s,h1,hm with
 | [m],_,hm=>exact ⟨m,rfl,by rw [← List.mem_singleton.mp hm]; exact hz⟩
theorem nQ {ts:List Tr}{T:Pl}(hr:∀ q∈ts.zipIdx,(aj T q.2).length=(ar q.1).length){v:Vt}(hv:v∈az ts):(eC ts T v,v.1)∈cZ ts T v.2:=by
 obtain ⟨t,ht,hs⟩:=mem_visits.mp hv
 obtain ⟨m,e,hz⟩:=xz cu (hr (t,v.1) (mem_zip.mpr ht)) hs
 refine ent_mem.mpr ⟨t,ht,?_⟩
 unfold eC
 rw [ht]
 dsimp only
 rw [e]
 exact List.mem_singleton_self m
theorem kh {ts:List Tr}{T:Pl}{s:Nat}{e:Int×Nat}(h:e∈cZ ts T s):(e.2,s)∈az ts∧e.1=eC ts T (e.2,s):=by
 obtain ⟨m,k⟩:=e
 obtain ⟨t,ht,hm⟩:=ent_mem.mp h
 have hl:=eR (row:=aj T k) (s:=s) (cu (t:=t))
 have hz:=pair_mem.mp hm
 refine ⟨mem_visits.mpr ⟨t,ht,(List.of_mem_zip hz).1⟩,?_⟩
 unfold eC
 dsimp only
 rw [ht]
 dsimp only
 match q:bb (ar t) (aj T k) s,hl,hm with
 | [x],_,hm=>exact List.mem_singleton.mp hm
theorem kA {ts:List Tr}{T:Pl}{k i:Nat}{t:Tr}{s:Nat}{m:Int}(ht:ts[k]?=some t)(h1:(ar t)[i]?=some s)(h2:(aj T k)[i]?=some m):eC ts T (k,s)=m:=by
 have hz:(s,m)∈(ar t).zip (aj T k):=List.mem_of_getElem? (i:=i) (List.getElem?_zip_eq_some.mpr ⟨h1,h2⟩)
 have:=(kh (ts:=ts) (T:=T) (s:=s) (e:=(m,k)) (ent_mem.mpr ⟨t,ht,pair_mem.mpr hz⟩)).2
 exact this.symm
noncomputable def wP (rs:List Int)(ts:List Tr)(v:Vt):List (Vt×Int):=match ts[v.1]? with
 | some t=>((ar t).zip (ar t).tail).filterMap fun u=>if u.2=v.2 then some ((v.1,u.1),rs.getD u.1 0) else none
 | none=>[]
noncomputable def wO (rs:List Int)(g:Int)(O:List (List Nat))(v:Vt):List (Vt×Int):=((O.getD v.2 []).zip (O.getD v.2 []).tail).filterMap fun u=>if u.2=v.1 then some ((u.1,v.2),rs.getD v.2 0+g) else none
noncomputable def mw (rs:List Int)(g:Int)(ts:List Tr)(O:List (List Nat))(v:Vt):List (Vt×Int):=wP rs ts v ++ wO rs g O v
noncomputable def iJ (ts:List Tr)(v:Vt):Int:=match ts[v.1]? with | some t=>t.2.2 | none=>0
theorem qT {rs:List Int}{ts:List Tr}{v:Vt}{t:Tr}(ht:ts[v.1]?=some t){u:Vt×Int}:u∈wP rs ts v↔∃ a,(a,v.2)∈(ar t).zip (ar t).tail∧u=((v.1,a),rs.getD a 0):=by
 unfold wP
 rw [ht]
 dsimp only
 rw [List.mem_filterMap]
 constructor
 ·intro hZ34
  obtain ⟨x,hx,e⟩:=hZ34
  by_cases z:x.2=v.2
  ·rw [if_pos z] at e; cases e; exact ⟨x.1,by rw [← z]; exact hx,rfl⟩
  ·rw [if_neg z] at e; cases e
 ·intro hZ35
  obtain ⟨a,ha,e⟩:=hZ35
  exact ⟨(a,v.2),ha,by rw [if_pos rfl,e]⟩
theorem mem_wO {rs:List Int}{g:Int}{O:List (List Nat)}{v:Vt}{u:Vt×Int}:u∈wO rs g O v↔∃ a,(a,v.1)∈(O.getD v.2 []).zip (O.getD v.2 []).tail∧u=((a,v.2),rs.getD v.2 0+g):=by
 unfold wO
 rw [List.mem_filterMap]
 constructor
 ·intro hZ36
  obtain ⟨x,hx,e⟩:=hZ36
  by_cases z:x.2=v.1
  ·rw [if_pos z] at e; cases e; exact ⟨x.1,by rw [← z]; exact hx,rfl⟩
  ·rw [if_neg z] at e; cases e
 ·intro hZ37
  obtain ⟨a,ha,e⟩:=hZ37
  exact ⟨(a,v.1),ha,by rw [if_pos rfl,e]⟩
structure Ords (n:Nat)(ts:List Tr)(O:List (List Nat)):Prop where
 len:O.length=n
 nd:∀ s,(O.getD s []).Nodup
 mem:∀ s k,s < n→(k∈O.getD s []↔(k,s)∈az ts)
theorem bB {α:Type}{l:List α}{u:α×α}(h:u∈l.zip l.tail):u.1∈l∧u.2∈l:=⟨(List.of_mem_zip h).1,List.mem_of_mem_tail (List.of_mem_zip h).2⟩
theorem Fe {rs:List Int}{g:Int}{ts:List Tr}{O:List (List Nat)}(C:Ctx rs g ts)(H:Ords rs.length ts O):∀ v∈az ts,∀ u∈mw rs g ts O v,1≤u.2∧u.1∈az ts:=by
 intro v hv u hu
 obtain ⟨t,ht,hs⟩:=mem_visits.mp hv
 have hg:Good rs.length t:=C.tr t (List.mem_of_getElem? ht)
 rcases List.mem_append.mp hu with z | z
 ·obtain ⟨a,ha,e⟩:=(qT ht).mp z
  subst e
  have ha':=(bB ha).1
  exact ⟨(fV C.ln (cx hg a ha')).1,mem_visits.mpr ⟨t,ht,ha'⟩⟩
 ·obtain ⟨a,ha,e⟩:=mem_wO.mp z
  subst e
  have hlt:=cx hg v.2 hs
  have h1:=(fV C.ln hlt).1
  have h2:=C.ln.gap.1
  exact ⟨by show 1≤rs.getD v.2 0+g; omega,(H.mem v.2 a hlt).mp (bB ha).1⟩
theorem qL {rs:List Int}:∀ {l:List (Nat×Int)} {r:Int},inT rs r l=true→(∀ u,l.head?=some u→r≤u.2)∧∀ x∈l.zip l.tail,x.1.2+rs.getD x.1.1 0≤x.2.2
 | [],r,_=>⟨fun u h=>(nomatch h),fun x h=>(nomatch h)⟩
 | [a],r,h=>by
  have h':(!decide (a.2 < r) && inT rs _ [])=true:=h
  rw [Bool.and_eq_true] at h'
  have:=h'.1
  exact ⟨fun u e=>(by cases e; simpa using this),fun x h=>(nomatch h)⟩
 | a :: b :: l,r,h=>by
  have h':(!decide (a.2 < r) && inT rs (a.2+rs.getD a.1 0) (b :: l))=true:=h
  rw [Bool.and_eq_true] at h'
  obtain ⟨i1,i2⟩:=qL h'.2
  refine ⟨fun u e=>by cases e; simpa using h'.1,fun x hx=> ?_⟩
  rcases List.mem_cons.mp hx with z | z
  ·subst z; exact i1 b rfl
  ·exact i2 x z
theorem Ac {w:List Nat}{row:List Int}(hl:row.length=w.length){a b:Nat}(h:(a,b)∈w.zip w.tail):∃ i m m',w[i]?=some a∧w[i+1]?=some b∧row[i]?=some m∧row[i+1]?=some m'∧((a,m),(b,m'))∈(w.zip row).zip (w.zip row).tail:=by
 obtain ⟨i,hi⟩:=List.getElem?_of_mem h
 obtain ⟨h1,h2⟩:=List.getElem?_zip_eq_some.mp hi
 rw [List.getElem?_tail] at h2
 have l1:=(d7 h1).1
 have l2:=(d7 h2).1
 dsimp only at h1 h2
 have r1:row[i]?=some row[i]:=cC (by omega)
 have r2:row[i+1]?=some row[i+1]:=cC (by omega)
 refine (oJ i (row[i]) (row[i+1]) h1 h2 r1 r2 (List.mem_of_getElem? (i:=i) (List.getElem?_zip_eq_some.mpr ⟨List.getElem?_zip_eq_some.mpr ⟨h1,r1⟩,?_⟩)))
 rw [List.getElem?_tail]
 exact List.getElem?_zip_eq_some.mpr ⟨h2,r2⟩
theorem rB {rs:List Int}{g:Int}{ts:List Tr}{T:Pl}{O:List (List Nat)}(C:Ctx rs g ts)(Kp:Keeps rs g ts T)(H:Ords rs.length ts O)(hs:∀ s,s < rs.length→∀ u∈(O.getD s []).zip (O.getD s []).tail,eC ts T (u.1,s)≤eC ts T (u.2,s)):Sol (az ts) (mw rs g ts O) (iJ ts) (eC ts T):=by
 have step:∀ v∈az ts,∀ u∈mw rs g ts O v,eC ts T u.1+u.2≤eC ts T v:=by
  intro v hv u hu
  obtain ⟨t,A,hsv⟩:=mem_visits.mp hv
  have hg:Good rs.length t:=C.tr t (List.mem_of_getElem? A)
  have hq:(t,v.1)∈ts.zipIdx:=mem_zip.mpr A
  rcases List.mem_append.mp hu with z | z
  ·obtain ⟨a,ha,e⟩:=(qT A).mp z
   subst e
   refine iN (Ac (Kp.row _ hq) ha) fun i m m' e1 e2 e3 e4 hz=> ?_
   have h1:=(qL (Kp.tm _ hq)).2 _ hz
   have h2:eC ts T (v.1,a)=m:=kA A e1 e3
   have h3:eC ts T (v.1,v.2)=m':=kA A e2 e4
   rw [h2]
   show m+rs.getD a 0≤eC ts T (v.1,v.2)
   rw [h3]
   exact h1
  ·obtain ⟨a,ha,e⟩:=mem_wO.mp z
   subst e
   have W:=cx hg v.2 hsv
   have hz:=bB ha
   have ha':=(H.mem v.2 a W).mp hz.1
   have h1:eC ts T (a,v.2)≤eC ts T v:=hs v.2 W _ ha
   have h2:=Kp.ap v.2 W _ (nQ (v:=(a,v.2)) Kp.row ha') _ (nQ (v:=v) Kp.row hv) (fun z=>by
    dsimp only at z
    have:=(qk (H.nd v.2) _ ha).2.2
    exact this z)
   have h3:=(fV C.ln W).1
   have h4:=C.ln.gap.1
   unfold apart at h2
   dsimp only at h1 h2 ⊢
   rcases h2 with y | y
   ·omega
   ·omega
 refine ⟨fun v hv=> ?_,step⟩
 obtain ⟨t,A,hsv⟩:=mem_visits.mp hv
 obtain ⟨i,hi,e⟩:=List.getElem_of_mem hsv
 have hg:Good rs.length t:=C.tr t (List.mem_of_getElem? A)
 have hq:(t,v.1)∈ts.zipIdx:=mem_zip.mpr A
 have hr:iJ ts v=t.2.2:=by unfold iJ; rw [A]
 rw [hr]
 have hrow:=Kp.row _ hq
 have go:∀ (i s:Nat),(ar t)[i]?=some s→t.2.2≤eC ts T (v.1,s):=by
  intro i
  induction i with
  | zero=>
   intro s hs0
   have hl:0 < (aj T v.1).length:=by have:=(d7 hs0).1; dsimp only at hrow; omega
   have r0:(aj T v.1)[0]?=some (aj T v.1)[0]:=cC hl
   rw [kA A hs0 r0]
   have h1:=(qL (Kp.tm _ hq)).1 (s,(aj T v.1)[0]) (by
    rw [List.head?_eq_getElem?]
    exact List.getElem?_zip_eq_some.mpr ⟨hs0,r0⟩)
   exact h1
  | succ i ih=>
   intro s hs1
   have hl:=(d7 hs1).1
   have h0:(ar t)[i]?=some (ar t)[i]:=cC (by omega)
   have h1:=ih _ h0
   have hz:((ar t)[i],s)∈(ar t).zip (ar t).tail:=List.mem_of_getElem? (i:=i) (List.getElem?_zip_eq_some.mpr ⟨h0,by rw [List.getElem?_tail]; exact hs1⟩)
   have hm:((v.1,(ar t)[i]),rs.getD (ar t)[i] 0)∈mw rs g ts O (v.1,s):=List.mem_append_left _ ((qT (v:=(v.1,s)) A).mpr ⟨_,hz,rfl⟩)
   have h2:=step (v.1,s) (mem_visits.mpr ⟨t,A,List.mem_of_getElem? hs1⟩) _ hm
   have h3:=(fV C.ln (cx hg _ (List.mem_of_getElem? h0))).1
   dsimp only at h2
   omega
 have:=go i v.2 (by rw [cC hi,e])
 exact this
set_option maxHeartbeats 1000000
section
variable{K:W.Frag}{CL:Addr}
noncomputable def ie (ts:List Tr)(T:Pl)(s:Nat):List (List Int):=(cZ ts T s).map fun e=>[e.1,(e.2:Int)]
open Classical in
noncomputable def iK (L:List (List Int)):List (List Int):=if h:∃ l:List (List Int),cU [.lst (L.map bv)]= .ok (.lst (l.map bv)) then Classical.choose h else []
theorem wn {L l:List (List Int)}(h:cU [.lst (L.map bv)]= .ok (.lst (l.map bv))):cU [.lst (L.map bv)]= .ok (.lst ((iK L).map bv))∧(iK L).map bv=l.map bv:=by
 have hx:∃ l:List (List Int),cU [.lst (L.map bv)]= .ok (.lst (l.map bv)):=⟨l,h⟩
 have e:iK L=Classical.choose hx:=by unfold iK; rw [dif_pos hx]
 have hc:=Classical.choose_spec hx
 rw [← e] at hc
 refine ⟨hc,?_⟩
 rw [h] at hc
 injection hc with z
 injection z with z
 exact z.symm
theorem tY {l l':List (List Int)}(h:l.map bv=l'.map bv):l=l':=by
 induction l generalizing l' with
 | nil=>cases l' with
  | nil=>rfl
  | cons a r=>cases h
 | cons a r ih=>cases l' with
  | nil=>cases h
  | cons b r'=>
   rw [List.map_cons,List.map_cons] at h
   injection h with h1 h2
   rw [ih h2]
   have:a=b:=by
    unfold bv at h1
    injection h1 with h1
    clear h2 ih
    induction a generalizing b with
    | nil=>cases b with
     | nil=>rfl
     | cons _ _=>cases h1
    | cons x a ih=>cases b with
     | nil=>cases h1
     | cons y b=>
      rw [List.map_cons,List.map_cons] at h1
      injection h1 with h1 h2
      injection h1 with h1
      rw [h1,ih b h2]
   rw [this]
theorem ul {ts:List Tr}{p:Pl}{s:Nat}(hlen:p.length=ts.length)(hb:∀ r∈p,r.length≤1000)(ht:ts.length≤5) :
  bz K CL [.lst (ts.map aC),.lst (p.map av),.int s]= .ok (.lst ((iK (ie ts p s)).map bv))∧cU [.lst ((ie ts p s).map bv)]= .ok (.lst ((iK (ie ts p s)).map bv))∧(iK (ie ts p s)).length≤5∧(∀ t,t∈iK (ie ts p s)↔t∈ie ts p s):=by
 refine Fi (lc (K:=K) (CL:=CL) (s:=s) hlen hb ht) fun l h1 h2 h3 h4 h5 h6=> ?_
 obtain ⟨e1,e2⟩:=wn h6
 have e3:=tY e2
 have e4:iK (ie ts p s)=l:=e3
 rw [e4]
 exact (mj h1 h6 h2 h3)
noncomputable def xy (ts:List Tr)(T:Pl)(s:Nat):List Int:=(iK (ie ts T s)).map fun t=>t.getD 1 0
theorem As {ts:List Tr}{T:Pl}{s:Nat}{t:List Int}(h:t∈ie ts T s):∃ a b,t=[a,b]:=by
 obtain ⟨e,_,rfl⟩:=List.mem_map.mp h
 exact ⟨_,_,rfl⟩
theorem DX {t:List Int}(h:∃ a b,t=[a,b]):aA (bv t) (.int 1)= .ok (.int (t.getD 1 0)):=by
 obtain ⟨a,b,rfl⟩:=h
 exact dP rfl
theorem uL {ts:List Tr}{p:Pl}{s:Nat}(hlen:p.length=ts.length)(hb:∀ r∈p,r.length≤1000)(ht:ts.length≤5):fx K CL [.lst (ts.map aC),.lst (p.map av),.int s]= .ok (av (xy ts p s)):=by
 refine lP (ul (K:=K) (CL:=CL) (s:=s) hlen hb ht) fun h1 h2 h3 h4=> ?_
 unfold fx
 refine (bK rfl).trans ?_
 have e0:aJ g0 [.lst (ts.map aC),.lst (p.map av),.int s]=[some (.lst (ts.map aC)),some (.lst (p.map av)),some (.int s)]:=rfl
 rw [e0]
 unfold gS
 rw [lf,bn (xs:=iK (ie ts p s)) (c:=bv) (g:=fun t=>D.int (t.getD 1 0)) (by simp only [aN,h1]) (by omega) (fun t ht=>⟨_,rfl,?_⟩)]
 ·unfold av xy
  rw [List.map_map]
  rfl
 ·have:=DX (As ((h4 t).mp ht))
  simp only [aN]
  exact this
theorem Iq {w:List Nat}{n:Nat}:plL n (aR w)=true:=mO w fun _ _=>i_
theorem mG {a b:Nat}:bY (.int (a:Int)) (.int (b:Int))=decide (a=b):=by
 unfold bY
 by_cases h:a=b
 ·subst h; simp
 ·rw [decide_eq_false h]
  simp
  omega
theorem Ip {w:List Nat}{s:Nat}:uc false (.int (s:Int)) (.lst (aR w))= .ok (.bl (decide (s∈w))):=by
 unfold uc
 dsimp only
 rw [if_pos ⟨Iq,i_⟩]
 congr 2
 unfold aR
 rw [if_neg Bool.false_ne_true,List.any_map]
 by_cases h:s∈w
 ·rw [decide_eq_true h,List.any_eq_true]
  exact ⟨s,h,by show bY _ _=true; rw [mG]; simp⟩
 ·rw [decide_eq_false h,List.any_eq_false]
  intro x hx
  show ¬ bY _ _=true
  rw [mG]
  simp
  exact fun z=>h (z ▸ hx)
end
set_option maxHeartbeats 1000000
theorem jt {ts:List Tr}{p:Pl}{s:Nat}(hlen:p.length=ts.length)(hb:∀ r∈p,r.length≤1000)(ht:ts.length≤5):(iK (ie ts p s)).length≤5∧(∀ t,t∈iK (ie ts p s)↔t∈ie ts p s)∧(iK (ie ts p s)).Nodup∧∀ u∈(iK (ie ts p s)).zip (iK (ie ts p s)).tail,HT.aM u.2 u.1=false:=by
 refine Fi (lc (K:=[]) (CL:=0) (s:=s) hlen hb ht) fun l h1 h2 h3 h4 h5 h6=> ?_
 obtain ⟨e1,e2⟩:=wn h6
 have e4:iK (ie ts p s)=l:=tY e2
 rw [e4]
 exact (mj h2 h3 h4 h5)
noncomputable def kG (ts:List Tr)(T:Pl)(s:Nat):List Nat:=(xy ts T s).map Int.toNat
theorem Bq {ts:List Tr}{T:Pl}{s:Nat}(hlen:T.length=ts.length)(hb:∀ r∈T,r.length≤1000)(ht:ts.length≤5):av (xy ts T s)= .lst (aR (kG ts T s)):=by
 refine lP (jt (s:=s) hlen hb ht) fun h1 h2 h3 h4=> ?_
 unfold av aR kG xy
 rw [List.map_map,List.map_map,List.map_map]
 congr 1
 refine List.map_congr_left fun t m=> ?_
 obtain ⟨e,_,rfl⟩:=List.mem_map.mp ((h2 t).mp m)
 show D.int ((e.2:Nat):Int)=D.int (((e.2:Nat):Int).toNat:Int)
 rw [Int.toNat_natCast]
theorem nS {ts:List Tr}{T:Pl}{s:Nat}:kG ts T s=(iK (ie ts T s)).map fun t=>(t.getD 1 0).toNat:=by unfold kG xy; rw [List.map_map]; rfl
theorem kg {ts:List Tr}{T:Pl}{s:Nat}{t:List Int}(h:t∈ie ts T s):((t.getD 1 0).toNat,s)∈az ts∧t=[eC ts T ((t.getD 1 0).toNat,s),((t.getD 1 0).toNat:Int)]:=by
 obtain ⟨e,he,rfl⟩:=List.mem_map.mp h
 have h1:=kh he
 have e2:([e.1,(e.2:Int)].getD 1 0).toNat=e.2:=by show ((e.2:Nat):Int).toNat=e.2; rw [Int.toNat_natCast]
 rw [e2]
 exact ⟨h1.1,by rw [h1.2]⟩
theorem sX {ts:List Tr}{T:Pl}{s:Nat}(hlen:T.length=ts.length)(hb:∀ r∈T,r.length≤1000)(ht:ts.length≤5)(hr:∀ q∈ts.zipIdx,(aj T q.2).length=(ar q.1).length)(k:Nat):k∈kG ts T s↔(k,s)∈az ts:=by
 refine lP (jt (s:=s) hlen hb ht) fun h1 h2 h3 h4=> ?_
 rw [nS,List.mem_map]
 constructor
 ·intro hZ38
  obtain ⟨t,m,rfl⟩:=hZ38
  exact (kg ((h2 t).mp m)).1
 ·intro h
  refine ⟨[eC ts T (k,s),(k:Int)],(h2 _).mpr (List.mem_map.mpr ⟨_,nQ hr h,rfl⟩),?_⟩
  show ((k:Nat):Int).toNat=k
  rw [Int.toNat_natCast]
theorem nR {ts:List Tr}{T:Pl}{s:Nat}(hlen:T.length=ts.length)(hb:∀ r∈T,r.length≤1000)(ht:ts.length≤5):(kG ts T s).Nodup:=by
 refine lP (jt (s:=s) hlen hb ht) fun h1 h2 h3 h4=> ?_
 rw [nS,List.nodup_iff_pairwise_ne,List.pairwise_map]
 refine (List.nodup_iff_pairwise_ne.mp h3).imp_of_mem fun {a b} ha hb hne e=>hne ?_
 have ea:=(kg ((h2 a).mp ha)).2
 have eb:=(kg ((h2 b).mp hb)).2
 rw [ea,eb,e]
theorem ma {ts:List Tr}{T:Pl}{s:Nat}(hlen:T.length=ts.length)(hb:∀ r∈T,r.length≤1000)(ht:ts.length≤5):∀ u∈(kG ts T s).zip (kG ts T s).tail,eC ts T (u.1,s)≤eC ts T (u.2,s):=by
 refine lP (jt (s:=s) hlen hb ht) fun h1 h2 h3 h4=> ?_
 rw [nS,← List.map_tail,List.zip_map]
 intro u hu
 obtain ⟨x,hx,rfl⟩:=List.mem_map.mp hu
 have m:=bB hx
 have ea:=(kg ((h2 _).mp m.1)).2
 have eb:=(kg ((h2 _).mp m.2)).2
 have:=h4 x hx
 rw [ea,eb] at this
 exact sS this
noncomputable def OO (n:Nat)(ts:List Tr)(T:Pl):List (List Nat):=(List.range n).map (kG ts T)
theorem vf {n:Nat}{ts:List Tr}{T:Pl}{s:Nat}(h:s < n):(OO n ts T).getD s []=kG ts T s:=by
 unfold OO
 rw [List.getD_eq_getElem?_getD,List.getElem?_map,List.getElem?_range h]
 rfl
theorem Fr {n:Nat}{ts:List Tr}{T:Pl}{s:Nat}(h:¬ s < n):(OO n ts T).getD s []=[]:=by
 unfold OO
 rw [List.getD_eq_getElem?_getD,List.getElem?_eq_none (by rw [List.length_map,List.length_range]; omega)]
 rfl
theorem vT {n:Nat}{ts:List Tr}{T:Pl}(hlen:T.length=ts.length)(hb:∀ r∈T,r.length≤1000)(ht:ts.length≤5)(hr:∀ q∈ts.zipIdx,(aj T q.2).length=(ar q.1).length):Ords n ts (OO n ts T) where
 len:=by unfold OO; rw [List.length_map,List.length_range]
 nd:=fun s=>by
  by_cases h:s < n
  ·rw [vf h]; exact nR hlen hb ht
  ·rw [Fr h]; exact List.nodup_nil
 mem:=fun s k h=>by rw [vf h]; exact sX hlen hb ht hr k
theorem Keeps.bound {rs:List Int}{g:Int}{ts:List Tr}{T:Pl}(C:Ctx rs g ts)(Kp:Keeps rs g ts T):∀ r∈T,r.length≤1000:=fun r hr=>by
 obtain ⟨k,hk,e⟩:=List.getElem_of_mem hr
 have hk':k < ts.length:=by rw [← Kp.len]; exact hk
 have hz:(ts[k],k)∈ts.zipIdx:=mem_zip.mpr (cC hk')
 have h1:=Kp.row _ hz
 have h2:=eA (C.good hz)
 have h3:=C.ln.few
 have h4:aj T k=r:=by
  have:=cn hk
  rw [cC hk,e] at this
  exact (Option.some.inj this).symm
 dsimp only at h1 h2
 rw [h4] at h1
 omega
theorem ET {rs:List Int}{g:Int}{ts:List Tr}{T:Pl}(C:Ctx rs g ts)(Kp:Keeps rs g ts T):Sol (az ts) (mw rs g ts (OO rs.length ts T)) (iJ ts) (eC ts T):=
 rB C Kp (vT Kp.len (Kp.bound C) C.few Kp.row) fun s hs=>by rw [vf hs]; exact ma Kp.len (Kp.bound C) C.few
section
variable{K:W.Frag}{CL:Addr}
theorem Keeps.isT {rs:List Int}{g:Int}{ts:List Tr}{T:Pl}(C:Ctx rs g ts)(Kp:Keeps rs g ts T):eJ K CL [aG CL rs g,.lst (ts.map bO),.lst (T.map av)]= .ok (.bl true):=by
 rw [yK C (by rw [Kp.len]; have:=C.few; omega) (Kp.bound C)]
 have h1:cF ts T=true:=by
  unfold cF
  refine decide_eq_true (List.ext_getElem? fun i=> ?_)
  rw [List.getElem?_map,List.getElem?_map]
  by_cases h:i < ts.length
  ·have hz:(ts[i],i)∈ts.zipIdx:=mem_zip.mpr (cC h)
   have:=Kp.row _ hz
   rw [cC h,cn (by rw [Kp.len]; exact h)]
   exact congrArg (fun (x:Nat)=>some (x:Int)) this
  ·rw [List.getElem?_eq_none (by rw [Kp.len]; omega),List.getElem?_eq_none (by omega)]
   rfl
 have h2:eB rs ts T=true:=by unfold eB; rw [List.all_eq_true]; exact Kp.tm
 have h3:iE rs g ts T=true:=apAll_iff.mpr Kp.ap
 rw [h1,h2,h3]
 rfl
theorem jC {rs:List Int}{g:Int}{ts:List Tr}{T:Pl}(C:Ctx rs g ts)(Kp:Keeps rs g ts T):bP K CL [aG CL rs g,.lst (ts.map bO),.lst (T.map av)]= .ok .non:=by
 unfold bP
 refine (bK rfl).trans ?_
 have e0:aJ f6 [aG CL rs g,.lst (ts.map bO),.lst (T.map av)]=[some (aG CL rs g),some (.lst (ts.map bO)),some (.lst (T.map av))]:=rfl
 rw [e0]
 unfold dX
 simp only [aN,Kp.isT C]
noncomputable def cr (O:List (List Nat)):D:= .lst (O.map fun o=> .lst (aR o))
theorem l9 {rs:List Int}{g:Int}{ts:List Tr}{T:Pl}(C:Ctx rs g ts)(Kp:Keeps rs g ts T):cX K CL [aG CL rs g,.lst (ts.map bO),.lst (T.map av)]= .ok (cr (OO rs.length ts T)):=by
 unfold cX
 refine (bK rfl).trans ?_
 have e0:aJ fP [aG CL rs g,.lst (ts.map bO),.lst (T.map av)]=[some (aG CL rs g),some (.lst (ts.map bO)),some (.lst (T.map av)),none]:=rfl
 rw [e0]
 unfold fO
 have hn:rs.length≤1000:=by have:=C.ln.few; omega
 simp only [aN,jC C Kp,mX C.tr hn C.one C.few]
 rw [bn (xs:=List.range rs.length) (c:=fun (i:Nat)=>D.int (i:Int)) (g:=fun s=> .lst (aR (kG ts T s))) (by simp only [aN,Fl,eT,dw (n:=rs.length) (by omega)]) (by rw [List.length_range]; omega) (fun s hs=>⟨_,rfl,?_⟩)]
 ·unfold cr OO
  rw [List.map_map]
  rfl
 ·have:=uL (K:=K) (CL:=CL) (s:=s) Kp.len (Kp.bound C) C.few
  rw [Bq Kp.len (Kp.bound C) C.few] at this
  simp only [aN]
  exact this
end
set_option maxHeartbeats 1000000
noncomputable def jl (v:Vt):List bH:=[.inl (v.1:Int),.inl (v.2:Int)]
noncomputable def vD (v:Vt):D:= .tup [.int (v.1:Int),.int (v.2:Int)]
noncomputable def wD (u:Vt×Int):D:= .tup [vD u.1,.int u.2]
noncomputable def lW (W:Vt→List (Vt×Int))(v:Vt):D:= .lst ((W v).map wD)
noncomputable def dW (vs:List Vt)(W:Vt→List (Vt×Int)):D:= .dct (vs.map jl) (vs.map (lW W))
noncomputable def fW (vs:List Vt)(W:Vt→List (Vt×Int)):D:= .fdc (vs.map jl) (vs.map (lW W))
theorem qP {a b:Vt}(h:jl a=jl b):a=b:=by
 unfold jl at h
 injection h with h1 h2
 injection h1 with h1
 injection h2 with h2
 injection h2 with h2
 exact Prod.ext (by omega) (by omega)
theorem nH {v:Vt}:gz [.int (v.1:Int),.int (v.2:Int)]=some (jl v):=rfl
theorem yL {vs:List Vt}{v:Vt}(h:v∉vs):ci (vs.map jl) (jl v)=none:=by
 unfold ci
 rw [List.findIdx?_eq_none_iff]
 intro k hk
 obtain ⟨u,hu,rfl⟩:=List.mem_map.mp hk
 exact decide_eq_false fun z=>h (qP z ▸ hu)
theorem xj {vs:List Vt}{v:Vt}(h:v∈vs):∃ m,ci (vs.map jl) (jl v)=some m∧vs[m]?=some v:=by
 cases q:ci (vs.map jl) (jl v) with
 | none=>
  unfold ci at q
  rw [List.findIdx?_eq_none_iff] at q
  have:=q (jl v) (List.mem_map_of_mem h)
  simp at this
 | some m=>
  refine ⟨m,rfl,?_⟩
  unfold ci at q
  obtain ⟨h1,h2,_⟩:=List.findIdx?_eq_some_iff_getElem.mp q
  rw [List.getElem_map] at h2
  rw [List.length_map] at h1
  rw [cC h1,qP (of_decide_eq_true h2)]
theorem u_ {f:Vt→D}:∀ {vs:List Vt} {v:Vt},v∈vs→rF (vs.map jl) (vs.map f) (jl v)=some (f v)
 | a :: vs,v,h=>by
  rw [List.map_cons,List.map_cons]
  unfold rF
  by_cases e:a=v
  ·subst e; rw [if_pos rfl]
  ·rw [if_neg (fun z=>e (qP z))]
   rcases List.mem_cons.mp h with z | z
   ·exact absurd z.symm e
   ·exact u_ z
theorem uk {f:Vt→D}{vs:List Vt}{v:Vt}(h:v∈vs):cA (.fdc (vs.map jl) (vs.map f)) (vD v)= .ok (f v):=by
 show j_ (vs.map jl) (vs.map f) [.int (v.1:Int),.int (v.2:Int)]=_
 unfold j_
 rw [nH]
 dsimp only
 rw [u_ h]
theorem De {f:Vt→D}{vs:List Vt}{v:Vt}(h:v∈vs):cA (.dct (vs.map jl) (vs.map f)) (vD v)= .ok (f v):=by
 show j_ (vs.map jl) (vs.map f) [.int (v.1:Int),.int (v.2:Int)]=_
 unfold j_
 rw [nH]
 dsimp only
 rw [u_ h]
theorem wj {f:Vt→D}{vs:List Vt}{v:Vt}(h:v∉vs):mv (vs.map jl) (vs.map f) (jl v) (f v)= .dct ((vs ++ [v]).map jl) ((vs ++ [v]).map f):=by
 unfold mv
 rw [yL h]
 simp only [List.map_append,List.map_cons,List.map_nil]
noncomputable def cY (E:List (Vt×Vt×Int))(v:Vt):List (Vt×Int):=E.filterMap fun e=>if e.1=v then some e.2 else none
theorem mZ {E F:List (Vt×Vt×Int)}{v:Vt}:cY (E ++ F) v=cY E v ++ cY F v:=List.filterMap_append ..
theorem vg {E:List (Vt×Vt×Int)}{v:Vt}(h:∀ e∈E,e.1≠v):cY E v=[]:=by
 unfold cY
 rw [List.filterMap_eq_nil_iff]
 intro e he
 rw [if_neg (h e he)]
theorem rP {E:List (Vt×Vt×Int)}{v:Vt}:(cY E v).length≤E.length:=List.length_filterMap_le ..
theorem CW {vs:List Vt}{E:List (Vt×Vt×Int)}{v:Vt}{u:Vt×Int}{m:Nat}(nd:vs.Nodup)(h:vs[m]?=some v):jc [m] (dW vs (cY E)) (.lst ((cY E v).map wD ++ [wD u]))=dW vs (cY (E ++ [(v,u)])):=by
 have hk:(vs.map (lW (cY E)))[m]?=some (lW (cY E) v):=by rw [List.getElem?_map,h]; rfl
 unfold jc dW
 simp only [gA,hk,tF,jc]
 congr 1
 refine List.ext_getElem? fun i=> ?_
 rw [List.getElem?_set,List.getElem?_map]
 by_cases hi:m=i
 ·subst hi
  have hl:m < (vs.map (lW (cY E))).length:=(d7 hk).1
  rw [if_pos rfl,if_pos hl,List.getElem?_map,h]
  show some _=some (lW (cY (E ++ [(v,u)])) v)
  unfold lW
  rw [mZ]
  have:cY [(v,u)] v=[u]:=by unfold cY; rw [List.filterMap_cons_some (b:=u) (by rw [if_pos rfl])]; rfl
  rw [this,List.map_append]
  rfl
 ·rw [if_neg hi,List.getElem?_map]
  cases q:vs[i]? with
  | none=>rfl
  | some x=>
   show some (lW _ x)=some (lW _ x)
   have hx:x≠v:=fun z=>hi ((List.getElem?_inj (d7 h).1 nd).mp (by rw [h,q,z]))
   have:cY [(v,u)] x=[]:=vg fun e he=>by rw [List.mem_singleton.mp he]; exact fun z=>hx z.symm
   unfold lW
   rw [mZ,this,List.append_nil]
theorem DM {vs:List Vt}{W:Vt→List (Vt×Int)}{v:Vt}{m:Nat}(h:vs[m]?=some v):gi [m] (dW vs W)=some (.lst ((W v).map wD)):=by
 have hk:(vs.map (lW W))[m]?=some (lW W v):=by rw [List.getElem?_map,h]; rfl
 unfold gi dW
 simp only [gA,hk,gi]
 rfl
noncomputable def qx (rs:List Int)(k:Nat)(us:List (Nat×Nat)):List (Vt×Vt×Int):=us.map fun u=>((k,u.2),(k,u.1),rs.getD u.1 0)
noncomputable def vz (rs:List Int)(qs:List Q):List (Vt×Vt×Int):=qs.flatMap fun q=>qx rs q.2 ((ar q.1).zip (ar q.1).tail)
noncomputable def qv (rs:List Int)(g:Int)(s:Nat)(us:List (Nat×Nat)):List (Vt×Vt×Int):=us.map fun u=>((u.2,s),(u.1,s),rs.getD s 0+g)
noncomputable def zW (rs:List Int)(g:Int)(os:List (List Nat×Nat)):List (Vt×Vt×Int):=os.flatMap fun o=>qv rs g o.2 (o.1.zip o.1.tail)
noncomputable def iM (qs:List Q):List Vt:=qs.flatMap fun q=>(ar q.1).map fun s=>(q.2,s)
theorem zV {α:Type}{l:List α}:l.zipIdx.Pairwise fun a b=>a.2≠b.2:=by
 have:(l.zipIdx.map Prod.snd).Nodup:=by rw [List.zipIdx_map_snd]; exact List.nodup_range'
 rw [List.nodup_iff_pairwise_ne,List.pairwise_map] at this
 exact this
theorem pA {α β:Type}{l:List α}{f:α×Nat→List β}{k:Nat}{x:α}(hx:l[k]?=some x)(h:∀ q∈l.zipIdx,q.2≠k→f q=[]):l.zipIdx.flatMap f=f (x,k):=by
 obtain ⟨a,b,e⟩:=List.append_of_mem (show (x,k)∈l.zipIdx from mem_zip.mpr hx)
 have pw:=zV (l:=l)
 rw [e] at pw h ⊢
 obtain ⟨_,p2,p3⟩:=List.pairwise_append.mp pw
 have ha:a.flatMap f=[]:=List.flatMap_eq_nil_iff.mpr fun q hq=>h q (List.mem_append_left _ hq) (p3 q hq (x,k) (List.mem_cons_self ..))
 have hb:b.flatMap f=[]:=List.flatMap_eq_nil_iff.mpr fun q hq=>h q (List.mem_append_right _ (cN hq)) (fun z=>(List.pairwise_cons.mp p2).1 q hq z.symm)
 rw [List.flatMap_append,List.flatMap_cons,ha,hb,List.nil_append,List.append_nil]
theorem vm {rs:List Int}{g:Int}{ts:List Tr}{O:List (List Nat)}{v:Vt}(hv:v∈az ts)(hs:v.2 < O.length):cY (vz rs ts.zipIdx ++ zW rs g O.zipIdx) v=mw rs g ts O v:=by
 obtain ⟨t,ht,_⟩:=mem_visits.mp hv
 rw [mZ]
 unfold mw
 congr 1
 ·unfold cY vz
  rw [List.filterMap_flatMap,pA ht]
  ·unfold wP qx
   rw [ht]
   dsimp only
   rw [List.filterMap_map]
   congr 1
   funext u
   show (if (v.1,u.2)=v then _ else _)=_
   by_cases z:u.2=v.2
   ·rw [if_pos z,if_pos (show (v.1,u.2)=v from Prod.ext rfl z)]
   ·have hz:¬ (v.1,u.2)=v:=fun y=>z (by have:=congrArg (fun x:Vt=>x.2) y; exact this)
    rw [if_neg z,if_neg hz]
  ·intro q _ hq
   unfold qx
   rw [List.filterMap_map,List.filterMap_eq_nil_iff]
   intro u _
   show (if (q.2,u.2)=v then _ else _)=_
   rw [if_neg (show ¬ (q.2,u.2)=v from fun y=>hq (congrArg Prod.fst y))]
 ·unfold cY zW
  rw [List.filterMap_flatMap,pA (cL (d:=[]) hs)]
  ·unfold wO qv
   rw [List.filterMap_map]
   congr 1
   funext u
   show (if (u.2,v.2)=v then _ else _)=_
   by_cases z:u.2=v.1
   ·rw [if_pos z,if_pos (show (u.2,v.2)=v from Prod.ext z rfl)]
   ·rw [if_neg z,if_neg (show ¬ (u.2,v.2)=v from fun y=>z (congrArg Prod.fst y))]
  ·intro q _ hq
   unfold qv
   rw [List.filterMap_map,List.filterMap_eq_nil_iff]
   intro u _
   show (if (u.2,q.2)=v then _ else _)=_
   rw [if_neg (show ¬ (u.2,q.2)=v from fun y=>hq (congrArg Prod.snd y))]
section
variable{K:W.Frag}{CL:Addr}
noncomputable def gj (ts:List Tr)(s:Nat):List Nat:=(ts.zipIdx.filter fun q=>decide (s∈ar q.1)).map fun q=>q.2
theorem going_mem {ts:List Tr}{s k:Nat}:k∈gj ts s↔(k,s)∈az ts:=by
 unfold gj
 rw [List.mem_map,mem_visits]
 constructor
 ·intro hZ39
  obtain ⟨q,hq,rfl⟩:=hZ39
  obtain ⟨h1,h2⟩:=List.mem_filter.mp hq
  exact ⟨q.1,mem_zip.mp h1,of_decide_eq_true h2⟩
 ·intro hZ40
  obtain ⟨t,ht,h⟩:=hZ40
  exact ⟨(t,k),List.mem_filter.mpr ⟨mem_zip.mpr ht,decide_eq_true h⟩,rfl⟩
theorem going_lt {ts:List Tr}{s:Nat}:(gj ts s).Pairwise (· < ·):=by
 unfold gj
 have h:(ts.zipIdx.map Prod.snd).Pairwise (· < ·):=by rw [List.zipIdx_map_snd]; exact List.pairwise_lt_range'
 exact h.sublist (List.filter_sublist.map _)
theorem uZ {n:Nat}{ts:List Tr}{O:List (List Nat)}(H:Ords n ts O){s:Nat}(hs:s < n)(h5:ts.length≤5):lM [.lst (aR (O.getD s []))]= .ok (.lst (aR (gj ts s))):=by
 have hl:(O.getD s []).length≤ts.length:=by
  have:=fB (vs:=List.range ts.length) (H.nd s) fun k hk=>by
   obtain ⟨t,ht,_⟩:=mem_visits.mp ((H.mem s k hs).mp hk)
   exact List.mem_range.mpr (d7 ht).1
  rwa [List.length_range] at this
 have e1:aR (O.getD s [])=((O.getD s []).map fun (k:Nat)=>(k:Int)).map D.int:=by unfold aR; rw [List.map_map]; rfl
 have e2:aR (gj ts s)=((gj ts s).map fun (k:Nat)=>(k:Int)).map D.int:=by unfold aR; rw [List.map_map]; rfl
 unfold lM
 dsimp only
 rw [e1,cV]
 dsimp only
 rw [if_pos (by rw [List.length_map]; omega),e2]
 congr 3
 refine j6 ((lO _).trans (List.Perm.map _ ?_)) (tV _) ?_
 ·exact (List.perm_ext_iff_of_nodup (H.nd s) (going_lt.imp fun {a b} h=>by omega)).mpr fun k=>(H.mem s k hs).trans going_mem.symm
 ·rw [List.pairwise_map]
  exact going_lt.imp fun {a b} h=>by omega
theorem m6 {n:Nat}{ts:List Tr}{O:List (List Nat)}(H:Ords n ts O)(hn:n≤1000)(h5:ts.length≤5)(hw:∀ t∈ts,(ar t).length≤1000):bS K CL [.int (n:Int),.lst (ts.map aC),cr O]= .ok .non:=by
 unfold bS
 refine (bK rfl).trans ?_
 have e0:aJ dh [.int (n:Int),.lst (ts.map aC),cr O]=[some (.int (n:Int)),some (.lst (ts.map aC)),some (cr O),none,none,none]:=rfl
 rw [e0]
 unfold dc cr
 simp only [aN,fT,H.len]
 obtain ⟨ρ',h1,_⟩:=kK (xs:=O.zipIdx) (c:=fun q:List Nat×Nat=>D.tup [.int (q.2:Int),.lst (aR q.1)]) (asg:=dL 3 4) (F:=ax (aQ 5 (aV (sE (pC (ac 1) pN)) [none,none,some 3] (dL 0 1) (eY (ae (ac 2) (ac 1) (uc false))) (ac 0))) (ii (eY (ae (c1 (ac 4) lM) (ac 5) uJ)) bad1 nxt)) (P:=fun _=>True)
  (ρ:=[some (.int (n:Int)),some (.lst (ts.map aC)),some (.lst (O.map fun o=> .lst (aR o))),none,none,none])
  (fun _ ρ=>∃ o3 o4 o5,ρ=[some (.int (n:Int)),some (.lst (ts.map aC)),some (.lst (O.map fun o=> .lst (aR o))),o3,o4,o5]) (FV _ _ _ rfl) (fun pre q post exs ρ hZ195=>by
   refine Cf (hZ195) fun o3 o4 o5 e=> ?_
   subst e
   refine ⟨_,rfl,?_⟩
   have hq:q∈O.zipIdx:=by rw [exs]; simp
   have hz:=mem_zip.mp hq
   have hs:q.2 < n:=by rw [← H.len]; exact (d7 hz).1
   have e1:O.getD q.2 []=q.1:=by rw [List.getD_eq_getElem?_getD,hz]; rfl
   have srt:=uZ H hs h5
   rw [e1] at srt
   have cg:aV (sE (pC (ac 1) pN)) [none,none,some 3] (dL 0 1) (eY (ae (ac 2) (ac 1) (uc false))) (ac 0) [some (.int (n:Int)),some (.lst (ts.map aC)),some (.lst (O.map fun o=> .lst (aR o))),some (.int (q.2:Int)),some (.lst (aR q.1)),o5]= .ok (.lst (aR (gj ts q.2))):=by
    rw [kj (xs:=ts.zipIdx) (c:=fun u:Q=>D.tup [.int (u.2:Int),aC u.1]) (p:=fun u=>decide (q.2∈ar u.1)) (g:=fun u=>D.int (u.2:Int)) (by simp only [aN,fT]) (by rw [List.length_zipIdx]; omega) (fun u hu=>(iI _ rfl ?_ (fun _=> ?_)))]
    ·unfold gj aR; rw [List.map_map]; rfl
    ·have:=Ip (w:=ar u.1) (s:=q.2)
     show eY (ae (ac 2) (ac 1) (uc false)) [some (.int (u.2:Int)),some (.lst (aR (ar u.1))),some (.int (q.2:Int))]=_
     simp only [aN,this]
    ·rfl
   simp only [aN,cg,srt,vP (d:= .lst (aR (gj ts q.2))) (nY fun _ _=>i_)]
   exact ⟨_,rfl,_,_,_,rfl⟩) (fun _ _=>trivial)
 rw [h1]
 rfl
end
set_option maxHeartbeats 1000000
section
variable{K:W.Frag}{CL:Addr}
theorem rS {vs:List Vt}{E:List (Vt×Vt×Int)}{v:Vt}{u:Vt×Int}{ρ:DS}{fi f:DS→Res D}(nd:vs.Nodup)(hv:v∈vs)(hE:E.length≤100000)(h:ρ[5]?=some (some (dW vs (cY E))))(hi:fi ρ= .ok (vD v))(hf:f ρ= .ok (wD u)):qn 5 1 (Ae 5 0 (wB 5) fi) f ρ= .nx (ρ.set 5 (some (dW vs (cY (E ++ [(v,u)]))))):=by
 obtain ⟨m,h1,h2⟩:=xj hv
 have key:=(Av (g:=Ae 5 0 (wB 5) fi) (f:=f) (j:=5) (n:=1) (p:=[m]) (t:=dW vs (cY E)) (rows:=(cY E v).map wD) (Dm (p:=[]) (n:=0) (kd:=[.int (v.1:Int),.int (v.2:Int)]) (k:=jl v) (t:=dW vs (cY E)) (m:=m) (ks:=vs.map jl) (l:=vs.map (lW (cY E))) (yg h) rfl hi nH h rfl h1) hf rfl h (DM h2) (by rw [List.length_map]; exact Nat.le_trans rP hE))
 rw [CW nd h2] at key
 exact key
theorem yc {vs:List Vt}{W:Vt→List (Vt×Int)}{v:Vt}{ρ:DS}{fi f:DS→Res D}(hv:v∉vs)(hW:W v=[])(hl:vs.length≤100000)(h:ρ[5]?=some (some (dW vs W)))(hi:fi ρ= .ok (vD v))(hf:f ρ= .ok (.lst [])):ke 5 fi f ρ= .nx (ρ.set 5 (some (dW (vs ++ [v]) W))):=by
 have e:(D.lst []:D)=lW W v:=by unfold lW; rw [hW]; rfl
 rw [e] at hf
 rw [vA (ks:=vs.map jl) (l:=vs.map (lW W)) (k:=jl v) (kd:=[.int (v.1:Int),.int (v.2:Int)]) h hf hi nH (by rw [List.length_map]; exact hl),wj hv]
 rfl
noncomputable abbrev rW (CL:Addr)(rs:List Int)(g:Int)(ts:List Tr)(O:List (List Nat))(d:D)(o6 o7 o8 o9 o10 o11:Option D):DS:=[some (aG CL rs g),some (.lst (ts.map aC)),some (cr O),some (.lst (rs.map D.int)),some (.int g),some d,o6,o7,o8,o9,o10,o11]
theorem mH {rs:List Int}:∀ {qs:List Q},(∀ q∈qs,(ar q.1).length≤5)→(vz rs qs).length≤5 * qs.length
 | [],_=>Nat.le_refl _
 | q :: qs,h=>by
  have ih:=mH (rs:=rs) (qs:=qs) fun u hu=>h u (cN hu)
  have h1:=h q (List.mem_cons_self ..)
  unfold vz at ih ⊢
  rw [List.flatMap_cons,List.length_append,List.length_cons]
  have:(qx rs q.2 ((ar q.1).zip (ar q.1).tail)).length≤5:=by
   unfold qx
   rw [List.length_map,List.length_zip]
   omega
  omega
theorem qw {rs:List Int}{g:Int}:∀ {os:List (List Nat×Nat)},(∀ o∈os,o.1.length≤5)→(zW rs g os).length≤5 * os.length
 | [],_=>Nat.le_refl _
 | q :: qs,h=>by
  have ih:=qw (rs:=rs) (g:=g) (os:=qs) fun u hu=>h u (cN hu)
  have h1:=h q (List.mem_cons_self ..)
  unfold zW at ih ⊢
  rw [List.flatMap_cons,List.length_append,List.length_cons]
  have:(qv rs g q.2 (q.1.zip q.1.tail)).length≤5:=by
   unfold qv
   rw [List.length_map,List.length_zip]
   omega
  omega
theorem oq:∀ {qs:List Q},(∀ q∈qs,(ar q.1).length≤5)→(iM qs).length≤5 * qs.length
 | [],_=>Nat.le_refl _
 | q :: qs,h=>by
  have ih:=oq (qs:=qs) fun u hu=>h u (cN hu)
  have h1:=h q (List.mem_cons_self ..)
  unfold iM at ih ⊢
  rw [List.flatMap_cons,List.length_append,List.length_cons,List.length_map]
  omega
theorem visQ_mem {qs:List Q}{v:Vt}:v∈iM qs↔∃ q∈qs,q.2=v.1∧v.2∈ar q.1:=by
 unfold iM
 rw [List.mem_flatMap]
 constructor
 ·intro hZ41
  obtain ⟨q,hq,h⟩:=hZ41
  obtain ⟨s,hs,rfl⟩:=List.mem_map.mp h
  exact (iI q hq rfl hs)
 ·intro hZ42
  refine cy (hZ42) fun q hq h1 h2=> ?_
  exact ⟨q,hq,List.mem_map.mpr ⟨v.2,h2,by rw [h1]⟩⟩
theorem zS {ts:List Tr}{pre post:List Q}(e:ts.zipIdx=pre ++ post):(iM pre).Nodup:=by
 have:az ts=iM pre ++ iM post:=by unfold az iM; rw [e,List.flatMap_append]
 have h:=eK (ts:=ts)
 rw [this] at h
 exact (List.nodup_append.mp h).1
theorem vS {n:Nat}{ts:List Tr}{O:List (List Nat)}(H:Ords n ts O){s:Nat}(hs:s < n):(O.getD s []).length≤ts.length:=by
 have:=fB (vs:=List.range ts.length) (H.nd s) fun k hk=>by
  obtain ⟨t,ht,_⟩:=mem_visits.mp ((H.mem s k hs).mp hk)
  exact List.mem_range.mpr (d7 ht).1
 rwa [List.length_range] at this
theorem va {rs:List Int}{g:Int}{ts:List Tr}{O:List (List Nat)}(C:Ctx rs g ts)(H:Ords rs.length ts O):fz K CL [aG CL rs g,.lst (ts.map aC),cr O]= .ok (dW (az ts) (mw rs g ts O)):=by
 have h5:∀ q∈ts.zipIdx,(ar q.1).length≤5:=fun q hq=>by
  have:=eA (C.good hq)
  have:=C.ln.few
  omega
 have hn5:=C.ln.few
 have ht5:=C.few
 have hck:bS K CL [.int (rs.length:Int),.lst (ts.map aC),cr O]= .ok .non:=m6 H (by omega) C.few fun t ht=>by
  have:=eA (C.tr t ht)
  omega
 unfold fz
 refine (bK rfl).trans ?_
 have e0:aJ jI [aG CL rs g,.lst (ts.map aC),cr O]=[some (aG CL rs g),some (.lst (ts.map aC)),some (cr O),none,none,none,none,none,none,none,none,none]:=rfl
 rw [e0]
 unfold gW
 simp only [aN,Fl,Ij,m8,eT,hck,fT]
 refine gM (fun pre i=>∃ r n m p w A,i=rW CL rs g ts O (dW (iM pre) (cY (vz rs pre))) r n m p w A) (Be none none none none none none rfl) (fun pre q post E i hZ196=> ?_) (fun P hZ197=> ?_)
 ·refine Cl (hZ196) fun r n m p w A e=> ?_
  subst e
  refine ⟨_,rfl,?_⟩
  have hq:q∈ts.zipIdx:=by rw [E]; simp
  have hsub:∀ u∈pre,u∈ts.zipIdx:=fun u G=>by rw [E]; exact List.mem_append_left _ G
  have hne:∀ u∈pre,u.2≠q.2:=fun u G=>by
   have pw:=zV (l:=ts)
   rw [E] at pw
   exact (List.pairwise_append.mp pw).2.2 u G q (List.mem_cons_self ..)
  have hpl:pre.length≤5:=by
   have:=congrArg List.length E
   rw [List.length_zipIdx,List.length_append] at this
   omega
  have hEl:(vz rs pre).length≤25:=by
   have:=mH (rs:=rs) (qs:=pre) fun u G=>h5 u (hsub u G)
   omega
  have hVl:(iM pre).length≤25:=by
   have:=oq (qs:=pre) fun u G=>h5 u (hsub u G)
   omega
  have hEne:∀ e∈vz rs pre,e.1.1≠q.2:=fun e he=>by
   obtain ⟨u,G,h⟩:=List.mem_flatMap.mp he
   obtain ⟨x,_,rfl⟩:=List.mem_map.mp h
   exact hne u G
  have hw5:=h5 q hq
  have hzp:oA [aC q.1,.lst (aR (ar q.1)).tail]= .ok (((ar q.1).zip (ar q.1).tail).map fun u=> .tup [.int (u.1:Int),.int (u.2:Int)]):=by
   unfold aC aR
   rw [← List.map_tail]
   exact lg
  have hcut:iD (some 1) none (aC q.1)= .ok (.lst (aR (ar q.1)).tail):=m_
  have hseq:BX (aC q.1)= .ok ((ar q.1).map fun (s:Nat)=>D.int (s:Int)):=rfl
  simp only [aN,hseq]
  refine pT (c:=fun (s:Nat)=>D.int (s:Int)) (xs:=ar q.1) (fun ps i=>∃ m p w A,i=rW CL rs g ts O (dW (iM pre ++ ps.map fun s=>(q.2,s)) (cY (vz rs pre))) (some (.int (q.2:Int))) (some (aC q.1)) m p w A) (DU m p w A (by rw [List.map_nil,List.append_nil])) (fun ps s po F i hZ198=> ?_) (fun P hZ199=> ?_)
  ·refine Cj (hZ198) fun m p w A e=> ?_
   subst e
   refine ⟨_,rfl,?_⟩
   have nv:(q.2,s)∉iM pre ++ ps.map fun s=>(q.2,s):=fun z=>by
    rcases List.mem_append.mp z with y | y
    ·refine cy (visQ_mem.mp y) fun u G h1 _=> ?_
     exact hne u G h1
    ·obtain ⟨s',hs',e⟩:=List.mem_map.mp y
     have e:=(Prod.mk.inj e).2
     subst e
     have nd:=cu (t:=q.1)
     rw [F] at nd
     exact (List.nodup_append.mp nd).2.2 s' hs' s' (List.mem_cons_self ..) rfl
   have hpsl:ps.length≤5:=by
    have:=congrArg List.length F
    rw [List.length_append] at this
    omega
   refine ⟨_,yc (v:=(q.2,s)) nv (vg fun e he z=>hEne e he (congrArg Prod.fst z)) (by rw [List.length_append,List.length_map]; omega) rfl (by simp only [aN]; rfl) (by simp only [aN]),some (.int (s:Int)),p,w,A,?_⟩
   rw [List.map_append,← List.append_assoc]
   rfl
  ·refine Cj (hZ199) fun m p w A e=> ?_
   subst e
   simp only [aN,hcut,hzp]
   have ndv:(iM pre ++ (ar q.1).map fun s=>(q.2,s)).Nodup:=by
    have:=zS (pre:=pre ++ [q]) (post:=post) (by rw [E]; simp)
    unfold iM at this
    rw [List.flatMap_append,List.flatMap_singleton] at this
    exact this
   refine kK (fun us i=>∃ p w,i=rW CL rs g ts O (dW (iM pre ++ (ar q.1).map fun s=>(q.2,s)) (cY (vz rs pre ++ qx rs q.2 us))) (some (.int (q.2:Int))) (some (aC q.1)) m p w A) ⟨p,w,by unfold qx; rw [List.map_nil,List.append_nil]⟩ (fun us u po F i hZ200=> ?_) (fun P hZ201=> ?_)
   ·obtain ⟨p,w,e⟩:=hZ200
    subst e
    refine ⟨_,rfl,?_⟩
    have G:u∈(ar q.1).zip (ar q.1).tail:=by rw [F]; simp
    have B:=bB G
    have hlt:u.1 < rs.length:=cx (C.good hq) _ B.1
    have y0:=bq (g:=D.int) (cL (d:=0) hlt)
    have hul:us.length≤5:=by
     have:=congrArg List.length F
     rw [List.length_append,List.length_zip] at this
     omega
    refine (ux _ (rS (v:=(q.2,u.2)) (u:=((q.2,u.1),rs.getD u.1 0)) ndv (List.mem_append_right _ (List.mem_map.mpr ⟨u.2,B.2,rfl⟩)) (by unfold qx; rw [List.length_append,List.length_map]; omega) rfl (by simp only [aN]; rfl) (by simp only [aN,y0]; rfl)) (some (.int (u.1:Int))) (some (.int (u.2:Int))) ?_)
    unfold qx
    rw [List.map_append,← List.append_assoc]
    rfl
   ·obtain ⟨p,w,e⟩:=hZ201
    refine (Be (some (.int (q.2:Int))) (some (aC q.1)) m p w A ?_)
    rw [e]
    unfold iM vz
    rw [List.flatMap_append,List.flatMap_singleton,List.flatMap_append,List.flatMap_singleton]
 ·refine Cl (hZ197) fun r n m p w A e=> ?_
  subst e
  have hv0:iM ts.zipIdx=az ts:=rfl
  rw [hv0]
  unfold rW cr
  simp only [aN,fT]
  have hEl:(vz rs ts.zipIdx).length≤25:=by
   have:=mH (rs:=rs) (qs:=ts.zipIdx) h5
   rw [List.length_zipIdx] at this
   omega
  have hO5:∀ o∈O.zipIdx,o.1.length≤5:=fun o ho=>by
   have B:=mem_zip.mp ho
   have hs:o.2 < rs.length:=by rw [← H.len]; exact (d7 B).1
   have:=vS H hs
   have e1:O.getD o.2 []=o.1:=by rw [List.getD_eq_getElem?_getD,B]; rfl
   rw [e1] at this
   omega
  refine gM (c:=fun o:List Nat×Nat=>D.tup [.int (o.2:Int),.lst (aR o.1)]) (xs:=O.zipIdx) (fun pre i=>∃ r n m p w A,i=rW CL rs g ts O (dW (az ts) (cY (vz rs ts.zipIdx ++ zW rs g pre))) r n m p w A) (Be r n m p w A (by unfold zW; rw [List.flatMap_nil,List.append_nil]; rfl)) (fun pre q post E i hZ202=> ?_) (fun P hZ203=> ?_)
  ·refine Cl (hZ202) fun r n m p w A e=> ?_
   subst e
   refine ⟨_,rfl,?_⟩
   have hq:q∈O.zipIdx:=by rw [E]; simp
   have B:=mem_zip.mp hq
   have hs:q.2 < rs.length:=by rw [← H.len]; exact (d7 B).1
   have e1:O.getD q.2 []=q.1:=by rw [List.getD_eq_getElem?_getD,B]; rfl
   have y0:=bq (g:=D.int) (cL (d:=0) hs)
   have hpl:pre.length≤5:=by
    have:=congrArg List.length E
    rw [List.length_zipIdx,List.length_append,H.len] at this
    omega
   have hOl:(zW rs g pre).length≤25:=by
    have:=qw (rs:=rs) (g:=g) (os:=pre) fun u G=>hO5 u (by rw [E]; exact List.mem_append_left _ G)
    omega
   have hzp:oA [.lst (aR q.1),.lst (aR q.1).tail]= .ok ((q.1.zip q.1.tail).map fun u=> .tup [.int (u.1:Int),.int (u.2:Int)]):=by
    unfold aR
    rw [← List.map_tail]
    exact lg
   simp only [aN,m_,hzp]
   refine kK (fun us i=>∃ p w,i=rW CL rs g ts O (dW (az ts) (cY (vz rs ts.zipIdx ++ zW rs g pre ++ qv rs g q.2 us))) r n (some (.int (q.2:Int))) p w (some (.lst (aR q.1)))) ⟨p,w,by unfold qv; rw [List.map_nil,List.append_nil]⟩ (fun us u po F i hZ204=> ?_) (fun P hZ205=> ?_)
   ·obtain ⟨p,w,e⟩:=hZ204
    subst e
    refine ⟨_,rfl,?_⟩
    have G:u∈q.1.zip q.1.tail:=by rw [F]; simp
    have B:=bB G
    have hul:us.length≤5:=by
     have:=congrArg List.length F
     have:=hO5 q hq
     rw [List.length_append,List.length_zip] at *
     omega
    have hv:(u.2,q.2)∈az ts:=(H.mem q.2 u.2 hs).mp (by rw [e1]; exact B.2)
    refine (ux _ (rS (v:=(u.2,q.2)) (u:=((u.1,q.2),rs.getD q.2 0+g)) eK hv (by unfold qv; rw [List.length_append,List.length_append,List.length_map]; omega) rfl (by simp only [aN]; rfl) (by simp only [aN,y0]; rfl)) (some (.int (u.1:Int))) (some (.int (u.2:Int))) ?_)
    unfold qv
    rw [List.map_append,← List.append_assoc]
    rfl
   ·obtain ⟨p,w,e⟩:=hZ205
    refine (Be r n (some (.int (q.2:Int))) p w (some (.lst (aR q.1))) ?_)
    rw [e]
    unfold zW
    rw [List.flatMap_append,List.flatMap_singleton,← List.append_assoc]
  ·refine Cl (hZ203) fun r n m p w A e=> ?_
   subst e
   simp only [aN]
   unfold dW
   congr 2
   refine List.map_congr_left fun v hv=> ?_
   obtain ⟨t,ht,h2⟩:=mem_visits.mp hv
   unfold lW
   rw [vm hv (by rw [H.len]; exact cx (C.tr t (List.mem_of_getElem? ht)) _ h2)]
end
set_option maxHeartbeats 1000000
theorem FD {a b:Vt}:bY (vD a) (vD b)=decide (a=b):=by
 unfold vD bY eqBL
 rw [mG]
 unfold eqBL
 rw [mG]
 unfold eqBL
 rw [Bool.and_true]
 by_cases h:a=b
 ·subst h; simp
 ·rw [decide_eq_false h]
  cases q:decide (a.1=b.1) with
  | false=>rfl
  | true=>
   rw [Bool.true_and]
   exact decide_eq_false fun z=>h (Prod.ext (of_decide_eq_true q) z)
theorem GP {v:Vt}:bg 19 (vD v)=true:=by
 unfold vD bg plL plL plL
 rw [i_,i_]
 rfl
theorem GO {t:List Vt}:plL 19 (t.map vD)=true:=mO t fun _ _=>GP
theorem qV {t:List Vt}{v:Vt}:uc true (vD v) (.lst (t.map vD))= .ok (.bl (!t.contains v)):=by
 unfold uc
 dsimp only
 rw [if_pos ⟨GO,GP⟩,if_pos rfl,List.any_map]
 congr 3
 rw [List.contains_eq_any_beq]
 congr 1
 funext x
 show bY (vD x) (vD v)=_
 rw [FD]
 by_cases h:x=v
 ·subst h; simp
 ·rw [decide_eq_false h]
  exact (beq_eq_false_iff_ne.mpr fun z=>h z.symm).symm
section
variable{K:W.Frag}{CL:Addr}{vs:List Vt}{W:Vt→List (Vt×Int)}
theorem yI {u:Vt×Int}:aA (wD u) (.int 0)= .ok (vD u.1):=dP rfl
theorem Gm {u:Vt×Int}:aA (wD u) (.int 1)= .ok (.int u.2):=dP rfl
theorem w6 {t:List Vt}{v:Vt}(hv:v∈vs)(hl:(W v).length≤100000):eQ K CL [fW vs W,.lst (t.map vD),vD v]= .ok (.lst (((W v).filter fun u=> !t.contains u.1).map fun u=>vD u.1)):=by
 unfold eQ
 refine (bK rfl).trans ?_
 have e0:aJ jh [fW vs W,.lst (t.map vD),vD v]=[some (fW vs W),some (.lst (t.map vD)),some (vD v)]:=rfl
 rw [e0]
 unfold jf
 have hg:cA (fW vs W) (vD v)= .ok (lW W v):=uk hv
 rw [lf,kj (xs:=W v) (c:=wD) (p:=fun u=> !t.contains u.1) (g:=fun u=>vD u.1) (by simp only [aN,hg]; rfl) hl (fun u hu=>(iI _ rfl ?_ (fun _=> ?_)))]
 ·rfl
 ·show eY (ae (ae (ac 0) (kI 0) aA) (ac 1) (uc true)) [some (wD u),some (.lst (t.map vD))]=_
  simp only [aN,yI,qV]
 ·show ae (ac 0) (kI 0) aA [some (wD u),some (.lst (t.map vD))]=_
  simp only [aN,yI]
theorem yy {t:List Vt}(hl:vs.length≤100000)(hw:∀ v∈vs,(W v).length≤100000):fU K CL [fW vs W,.lst (t.map vD)]= .ok (.lst ((b9 vs W t).map vD)):=by
 unfold fU
 refine (bK rfl).trans ?_
 have e0:aJ mz [fW vs W,.lst (t.map vD)]=[some (fW vs W),some (.lst (t.map vD))]:=rfl
 rw [e0]
 unfold mx
 have hk:sN (fW vs W)= .ok (vs.map vD):=by
  show Res.ok ((vs.map jl).map Bg)=_
  rw [List.map_map]; rfl
 rw [lf,kj (xs:=vs) (c:=vD) (p:=fun v=> !t.contains v && ((W v).all fun u=>t.contains u.1)) (g:=vD) (by show (sN (fW vs W))=_; exact hk) hl (fun v hv=>(iI _ rfl ?_ (fun _=> ?_)))]
 ·rfl
 ·show wA (eY (ae (ac 0) (ac 1) (uc true))) (mq (tR (bD (pC (ac 2) (pC (ac 1) (pC (ac 0) pN))) (eQ K CL)))) [some (vD v),some (.lst (t.map vD)),some (fW vs W)]=_
  have hh:=w6 (K:=K) (CL:=CL) (t:=t) hv (hw v hv)
  cases q:t.contains v with
  | true=>simp only [aN,qV,q]
  | false=>
   simp only [aN,qV,q,hh,qE]
   congr 1
   rw [Bool.not_not]
   cases y:(W v).all fun u=>t.contains u.1 with
   | true=>
    rw [List.filter_eq_nil_iff.mpr fun u hu=>by rw [List.all_eq_true] at y; rw [y u hu]; exact Bool.false_ne_true]
    rfl
   | false=>
    cases z:(W v).filter fun u=> !t.contains u.1 with
    | cons a b=>rfl
    | nil=>
     rw [List.filter_eq_nil_iff] at z
     have:((W v).all fun u=>t.contains u.1)=true:=List.all_eq_true.mpr fun u hu=>by simpa using z u hu
     rw [this] at y
     cases y
 ·rfl
theorem yQ {t:List Vt}:eI 1 (.lst (t.map vD))=true:=by
 have:=pH (l:=t.map fun v=>[(v.1:Int),(v.2:Int)])
 rw [List.map_map] at this
 exact this
theorem yF (hv:vs.Nodup)(hl:vs.length≤39)(hw:∀ v∈vs,(W v).length≤100000):∃ t,Turn vs W t∧b9 vs W t=[]∧gC K CL [fW vs W]= .ok (.lst (t.map vD)):=by
 have ex:∀ t:List Vt,fU K CL [fW vs W,.lst (t.map vD)]= .ok (.lst ((b9 vs W t).map vD)):=fun t=>yy (by omega) hw
 refine (iI (fq vs W 40 []) ((lu hv 40 [] oo (by rw [List.length_nil]; omega)).1) ((lu hv 40 [] oo (by rw [List.length_nil]; omega)).2) ?_)
 unfold gC
 refine (bK rfl).trans ?_
 have e0:aJ k8 [fW vs W]=[some (fW vs W),none,none]:=rfl
 rw [e0]
 unfold jg
 have h0:=ex []
 rw [List.map_nil] at h0
 simp only [aN,h0,yQ]
 refine me (fun n ρ=>∃ t,ρ=[some (fW vs W),some (.lst (t.map vD)),some (.lst ((b9 vs W t).map vD))]∧Turn vs W t∧vs.length≤n+t.length∧fq vs W (n+1) t=fq vs W 40 []) (fun ρ=>ρ=[some (fW vs W),some (.lst ((fq vs W 40 []).map vD)),some (.lst [])]) 39 (by omega) (DR ([]) rfl oo (by omega) rfl) (fun n ρ hZ206=> ?_) (fun ρ' e=> ?_)
 ·obtain ⟨t,e,T,hn,hr⟩:=hZ206
  subst e
  by_cases h:b9 vs W t=[]
  ·refine .inl ⟨?_,?_⟩
   ·rw [h]; simp only [aN,qE]; rfl
   ·rw [h]
    have e3:fq vs W (n+1) t=t:=by
     unfold fq
     rw [if_pos h]
    rw [← hr,e3]; rfl
  ·have T2:=qb hv T
   have l2:=fB T2.nd T2.sub
   rw [List.length_append] at l2
   have lp:=List.length_pos_iff.mpr h
   cases n with
   | zero=>omega
   | succ m=>
    refine .inr ⟨?_,m,[some (fW vs W),some (.lst ((t ++ b9 vs W t).map vD)),some (.lst ((b9 vs W (t ++ b9 vs W t)).map vD))],rfl,?_,t ++ b9 vs W t,rfl,T2,by rw [List.length_append]; omega,?_⟩
    ·cases q:b9 vs W t with
     | nil=>exact absurd q h
     | cons a b=>simp only [aN,qE]; rfl
    ·show (ax (qF 1 0 (wB 1) (bZ fA (ac 2))) (aQ 2 (rK 1 (bD (pC (ac 0) (pC (ac 1) pN)) (fU K CL))))) _=_
     have e1:qF 1 0 (wB 1) (bZ fA (ac 2)) [some (fW vs W),some (.lst (t.map vD)),some (.lst ((b9 vs W t).map vD))]= .nx [some (fW vs W),some (.lst ((t ++ b9 vs W t).map vD)),some (.lst ((b9 vs W t).map vD))]:=by
      rw [Ax (j:=1) (n:=0) (p:=[]) (t:= .lst (t.map vD)) (g:=wB 1) (rows:=t.map vD) (l:=(b9 vs W t).map vD) (yg rfl) (by simp only [aN]) rfl rfl rfl (by rw [List.length_map,List.length_map]; omega),List.map_append]
      rfl
     rw [gc,e1]
     simp only [aN,ex (t ++ b9 vs W t),yQ]
    ·rw [← hr]
     conv=>rhs; unfold fq
     rw [if_neg h]
 ·subst e
  simp only [aN]
theorem Ej {a:Int}{ns:List Int}:i7 (a :: ns)=vO a ns:=by
 have h:=gF (ns:=a :: ns) (by simp)
 exact (uI (h.2 a (List.mem_cons_self ..)) (fun e he=>h.2 e (cN he)) (List.mem_cons.mp h.1)).symm
noncomputable def dE (t:List Vt)(f:Vt→Int):D:= .dct (t.map jl) (t.map fun v=> .int (f v))
theorem nJ {ts:List Tr}{t:List Vt}(T:Turn (az ts) W t)(hl:(az ts).length≤39)(hw:∀ v∈az ts,(W v).length≤1000):ck K CL [.lst (ts.map bO),fW (az ts) W,.lst (t.map vD)]= .ok (dE t (gw W (iJ ts) t)):=by
 unfold ck
 refine (bK rfl).trans ?_
 have e0:aJ dl [.lst (ts.map bO),fW (az ts) W,.lst (t.map vD)]=[some (.lst (ts.map bO)),some (fW (az ts) W),some (.lst (t.map vD)),none,none,none]:=rfl
 rw [e0]
 unfold df
 simp only [aN]
 refine gM (fun pre ρ=>∃ o4 o5,ρ=[some (.lst (ts.map bO)),some (fW (az ts) W),some (.lst (t.map vD)),some (dE pre (gw W (iJ ts) pre)),o4,o5]) ⟨none,none,rfl⟩ (fun pre v post C ρ hZ207=> ?_) (fun ρ' hZ208=> ?_)
 ·obtain ⟨o4,o5,e⟩:=hZ207
  subst e
  have hvt:v∈t:=by rw [C]; simp
  have hv:=T.sub v hvt
  obtain ⟨tr,ht,hs⟩:=mem_visits.mp hv
  have nv:v∉pre:=fun z=>by
   have nd:=T.nd
   rw [C] at nd
   exact (List.nodup_append.mp nd).2.2 v z v (List.mem_cons_self ..) rfl
  have hpl:pre.length≤39:=by
   have:=fB T.nd T.sub
   have:=congrArg List.length C
   rw [List.length_append] at this
   omega
  have hix:=bq (g:=bO) ht
  have e2:aA (bO tr) (.int 2)= .ok (.int tr.2.2):=pk
  have er:iJ ts v=tr.2.2:=by unfold iJ; rw [ht]
  have iv0:aA (vD v) (.int 0)= .ok (.int (v.1:Int)):=dP rfl
  have hg:cA (fW (az ts) W) (vD v)= .ok (lW W v):=uk hv
  refine ⟨_,rfl,?_⟩
  simp only [aN,iv0,hix,e2]
  have cg:aV (sL (ae (ac 1) (ac 4) cA)) [none,some 3] (bw 0) yes (ae (ae (ac 1) (ae (ac 0) (kI 0) aA) cA) (ae (ac 0) (kI 1) aA) aO) [some (.lst (ts.map bO)),some (fW (az ts) W),some (.lst (t.map vD)),some (dE pre (gw W (iJ ts) pre)),some (vD v),some (.int tr.2.2)]= .ok (.lst ((W v).map fun u=>D.int (gw W (iJ ts) pre u.1+u.2))):=by
   refine bn (xs:=W v) (c:=wD) (g:=fun u=>D.int (gw W (iJ ts) pre u.1+u.2)) (by simp only [aN,hg]; rfl) (Nat.le_trans (hw v hv) (by decide)) (fun u hu=>⟨_,rfl,?_⟩)
   have hp:u.1∈pre:=T.top pre v post C u hu
   have hgu:cA (dE pre (gw W (iJ ts) pre)) (vD u.1)= .ok (.int (gw W (iJ ts) pre u.1)):=De hp
   show ae (ae (ac 1) (ae (ac 0) (kI 0) aA) cA) (ae (ac 0) (kI 1) aA) aO [some (wD u),some (dE pre (gw W (iJ ts) pre))]=_
   simp only [aN,yI,Gm,hgu,su]
  have val:(rK 0 (c1 (ae (i6 (pC (ac 5) pN)) (aV (sL (ae (ac 1) (ac 4) cA)) [none,some 3] (bw 0) yes (ae (ae (ac 1) (ae (ac 0) (kI 0) aA) cA) (ae (ac 0) (kI 1) aA) aO)) aO) mn)) [some (.lst (ts.map bO)),some (fW (az ts) W),some (.lst (t.map vD)),some (dE pre (gw W (iJ ts) pre)),some (vD v),some (.int tr.2.2)]= .ok (.int (gw W (iJ ts) (pre ++ [v]) v)):=by
   have ea:aO (.lst [.int tr.2.2]) (.lst ((W v).map fun u=>D.int (gw W (iJ ts) pre u.1+u.2)))= .ok (.lst ((tr.2.2 :: (W v).map fun u=>gw W (iJ ts) pre u.1+u.2).map D.int)):=by
    have:=hw v hv
    rw [sv (fv (by rw [List.length_map,List.length_singleton]; omega)),List.map_cons,List.map_map]
    rfl
   simp only [aN,cg,ea,yW,Ej,iW]
   rw [nI]
   unfold CA
   rw [if_pos rfl,er]
  refine (ux _ (vA (ks:=pre.map jl) (l:=pre.map fun v=> .int (gw W (iJ ts) pre v)) (k:=jl v) (kd:=[.int (v.1:Int),.int (v.2:Int)]) rfl val (by simp only [aN]; rfl) nH (by rw [List.length_map]; omega)) (some (vD v)) (some (.int tr.2.2)) ?_)
  have ep:mv (pre.map jl) (pre.map fun v=> .int (gw W (iJ ts) pre v)) (jl v) (.int (gw W (iJ ts) (pre ++ [v]) v))=dE (pre ++ [v]) (gw W (iJ ts) (pre ++ [v])):=by
   have:(pre.map fun v=>D.int (gw W (iJ ts) pre v))=pre.map fun x=>D.int (gw W (iJ ts) (pre ++ [v]) x):=List.map_congr_left fun x hx=>by
    rw [nI]
    unfold CA
    rw [if_neg (fun (z:x=v)=>nv (z ▸ hx))]
   rw [this]
   exact wj (f:=fun x=>D.int (gw W (iJ ts) (pre ++ [v]) x)) nv
  rw [ep]
  rfl
 ·obtain ⟨o4,o5,e⟩:=hZ208
  subst e
  simp only [aN]
noncomputable def fE (t:List Vt)(f:Vt→Int):D:= .fdc (t.map jl) (t.map fun v=> .int (f v))
theorem zC {t:List Vt}{f:Vt→Int}{q:Q}(hl:(ar q.1).length≤1000)(h:∀ s∈ar q.1,(q.2,s)∈t):gE K CL [.int (q.2:Int),aC q.1,fE t f]= .ok (av ((ar q.1).map fun s=>f (q.2,s))):=by
 unfold gE
 refine (bK rfl).trans ?_
 have e0:aJ j4 [.int (q.2:Int),aC q.1,fE t f]=[some (.int (q.2:Int)),some (aC q.1),some (fE t f)]:=rfl
 rw [e0]
 unfold j3
 rw [lf,bn (xs:=ar q.1) (c:=fun (s:Nat)=>D.int (s:Int)) (g:=fun s=>D.int (f (q.2,s))) (by simp only [aN]; rfl) (by omega) (fun s hs=>⟨_,rfl,?_⟩)]
 ·unfold av; rw [List.map_map]; rfl
 ·have hg:cA (fE t f) (vD (q.2,s))= .ok (.int (f (q.2,s))):=uk (h s hs)
  show ae (ac 1) (fK (pC (ac 2) (pC (ac 0) pN))) cA [some (.int (s:Int)),some (fE t f),some (.int (q.2:Int))]=_
  simp only [aN]
  exact hg
noncomputable def cw (ts:List Tr)(f:Vt→Int):Pl:=ts.zipIdx.map fun q=>(ar q.1).map fun s=>f (q.2,s)
theorem u6 {ts:List Tr}{t:List Vt}{f:Vt→Int}(h5:ts.length≤5)(hl:∀ q∈ts.zipIdx,(ar q.1).length≤1000)(h:∀ v∈az ts,v∈t):fy K CL [.lst (ts.map aC),fE t f]= .ok (.lst ((cw ts f).map av)):=by
 unfold fy
 refine (bK rfl).trans ?_
 have e0:aJ g_ [.lst (ts.map aC),fE t f]=[some (.lst (ts.map aC)),some (fE t f)]:=rfl
 rw [e0]
 unfold gU
 rw [lf,bn (xs:=ts.zipIdx) (c:=fun u:Q=>D.tup [.int (u.2:Int),aC u.1]) (g:=fun q:Q=>av ((ar q.1).map fun s=>f (q.2,s))) (by simp only [aN,fT]) (by rw [List.length_zipIdx]; omega) (fun q hq=>⟨_,rfl,?_⟩)]
 ·unfold cw; rw [List.map_map]; rfl
 ·show bD (pC (ac 0) (pC (ac 1) (pC (ac 2) pN))) (gE K CL) [some (.int (q.2:Int)),some (aC q.1),some (fE t f)]=_
  simp only [aN,zC (K:=K) (CL:=CL) (t:=t) (f:=f) (hl q hq) (fun s hs=>h _ (mem_visits.mpr ⟨q.1,mem_zip.mp hq,hs⟩))]
theorem oM {rs:List Int}{g:Int}{ts:List Tr}{O:List (List Nat)}{τ:Vt→Int}(C:Ctx rs g ts)(H:Ords rs.length ts O)(S:Sol (az ts) (mw rs g ts O) (iJ ts) τ):∃ f:Vt→Int,cI K CL [aG CL rs g,.lst (ts.map bO),cr O]= .ok (.tup [.str (Str.ofString "table"),.lst ((cw ts f).map av)])∧Sol (az ts) (mw rs g ts O) (iJ ts) f∧∀ v∈az ts,f v≤τ v:=by
 have hn5:=C.ln.few
 have ht5:=C.few
 have h5:∀ q∈ts.zipIdx,(ar q.1).length≤5:=fun q hq=>by
  have:=eA (C.good hq)
  omega
 have hvl:(az ts).length≤39:=by
  have:=oq (qs:=ts.zipIdx) h5
  rw [List.length_zipIdx] at this
  have e:iM ts.zipIdx=az ts:=rfl
  rw [e] at this
  omega
 have hwl:∀ v∈az ts,(mw rs g ts O v).length≤1000:=fun v F=>by
  obtain ⟨t,ht,hs⟩:=mem_visits.mp F
  have hlt:=cx (C.tr t (List.mem_of_getElem? ht)) _ hs
  rw [← vm F (by rw [H.len]; exact hlt)]
  have h1:=mH (rs:=rs) (qs:=ts.zipIdx) h5
  have h2:=qw (rs:=rs) (g:=g) (os:=O.zipIdx) fun o ho=>by
   have hz:=mem_zip.mp ho
   have hs:o.2 < rs.length:=by rw [← H.len]; exact (d7 hz).1
   have:=vS H hs
   have e1:O.getD o.2 []=o.1:=by rw [List.getD_eq_getElem?_getD,hz]; rfl
   rw [e1] at this
   omega
  have h3:=rP (E:=vz rs ts.zipIdx ++ zW rs g O.zipIdx) (v:=v)
  rw [List.length_append] at h3
  rw [List.length_zipIdx] at h1 h2
  rw [H.len] at h2
  omega
 refine cy (yF (K:=K) (CL:=CL) (W:=mw rs g ts O) eK hvl (fun v F=>Nat.le_trans (hwl v F) (by decide))) fun t T hf ht=> ?_
 have I:=sF S (fun v F=>by
  obtain ⟨tr,h1,_⟩:=mem_visits.mp F
  unfold iJ
  rw [h1]
  exact (C.tr tr (List.mem_of_getElem? h1)).r.1) (fun v F u hu=>Fe C H v F u hu) hf
 refine (iI (gw (mw rs g ts O) (iJ ts) t) ?_ (tU T I) (fun v F=>Ed S T v (I v F)))
 have hlen:¬ ((t.length:Int) < ((az ts).length:Int)):=by
  have:=fB eK I
  omega
 have hle:=nJ (K:=K) (CL:=CL) T hvl hwl
 have hto:=u6 (K:=K) (CL:=CL) (t:=t) (f:=gw (mw rs g ts O) (iJ ts) t) ht5 (fun q hq=>by have:=h5 q hq; omega) I
 have hwo:=va (K:=K) (CL:=CL) C H
 have fz1:AW (dW (az ts) (mw rs g ts O))= .ok (fW (az ts) (mw rs g ts O)):=rfl
 have fz2:AW (dE t (gw (mw rs g ts O) (iJ ts) t))= .ok (fE t (gw (mw rs g ts O) (iJ ts) t)):=rfl
 have hlk:yR [fW (az ts) (mw rs g ts O)]= .ok (.int ((az ts).length:Int)):=by
  show Res.ok (D.int (((az ts).map jl).length:Int))=_
  rw [List.length_map]
 have lf0:eI 0 (.str (Str.ofString "table"))=true:=lB rfl
 have lf1:eI 1 (.str (Str.ofString "table"))=true:=lB rfl
 unfold cI
 refine (bK rfl).trans ?_
 have e0:aJ f8 [aG CL rs g,.lst (ts.map bO),cr O]=[some (aG CL rs g),some (.lst (ts.map bO)),some (cr O),none,none,none]:=rfl
 rw [e0]
 unfold dZ
 have hwy:cR K CL [aG CL rs g,.lst (ts.map bO)]= .ok (.lst (ts.map aC)):=mX C.tr (by omega) C.one C.few
 simp only [aN,HC,hwy,hwo,fz1,ht,hlk,cM,hle,fz2,hto,lf0,lf1,decide_eq_false hlen]
end
set_option maxHeartbeats 1000000
theorem uA {rs:List Int}{g:Int}{ts:List Tr}{T:Pl}(h:(cF ts T && (eB rs ts T && iE rs g ts T))=true):Keeps rs g ts T:=by
 rw [Bool.and_eq_true,Bool.and_eq_true] at h
 refine ⟨jv h.1,fun q hq=>qd h.1 hq,fun q hq=> ?_,apAll_iff.mp h.2.2⟩
 have:=h.2.1
 unfold eB at this
 exact List.all_eq_true.mp this q hq
theorem DO {rs:List Int}:∀ (l:List (Nat×Int)) (r:Int),(∀ u,l.head?=some u→r≤u.2)→(∀ x∈l.zip l.tail,x.1.2+rs.getD x.1.1 0≤x.2.2)→inT rs r l=true:=by
 intro l
 induction l with
 | nil=>intro r _ _; rfl
 | cons a l ih=>
  intro r h1 h2
  show (!decide (a.2 < r) && inT rs (a.2+rs.getD a.1 0) l)=true
  have ha:=h1 a rfl
  rw [decide_eq_false (by omega),ih _ (fun u hu=> ?_) fun x hx=> ?_]
  ·rfl
  ·cases l with
   | nil=>cases hu
   | cons b l=>
    have e:b=u:=Option.some.inj hu
    exact h2 (a,u) (by rw [← e]; exact List.mem_cons_self)
  ·cases l with
   | nil=>cases hx
   | cons b l=>exact h2 x (cN hx)
section
variable{rs:List Int}{g:Int}{ts:List Tr}{O:List (List Nat)}{f:Vt→Int}
theorem kP {q:Q}(hq:q∈ts.zipIdx):aj (cw ts f) q.2=(ar q.1).map fun s=>f (q.2,s):=by
 have hz:=mem_zip.mp hq
 unfold aj cw
 rw [List.getD_eq_getElem?_getD,List.getElem?_map,List.getElem?_zipIdx,hz]
 simp
theorem kC {v:Vt}(hv:v∈az ts):eC ts (cw ts f) v=f v:=by
 obtain ⟨t,ht,hs⟩:=mem_visits.mp hv
 obtain ⟨i,hi,e⟩:=List.getElem_of_mem hs
 have h1:(ar t)[i]?=some v.2:=by rw [cC hi,e]
 refine kA (k:=v.1) (s:=v.2) ht h1 ?_
 rw [kP (q:=(t,v.1)) (mem_zip.mpr ht),List.getElem?_map,h1]
 rfl
theorem y9 (C:Ctx rs g ts)(H:Ords rs.length ts O)(S:Sol (az ts) (mw rs g ts O) (iJ ts) f){s:Nat}(hs:s < rs.length):(O.getD s []).Pairwise fun a b=>f (a,s)+apart rs g s≤f (b,s):=by
 have hr:=fV C.ln hs
 have hg:=C.ln.gap
 refine ql (fun a b c h1 h2=>by unfold apart at h1 h2 ⊢; omega) fun u hu=> ?_
 have hv:(u.2,s)∈az ts:=(H.mem s u.2 hs).mp (bB hu).2
 have hw:((u.1,s),rs.getD s 0+g)∈mw rs g ts O (u.2,s):=List.mem_append_right _ (mem_wO.mpr ⟨u.1,hu,rfl⟩)
 exact S.wt _ hv _ hw
theorem pZ (C:Ctx rs g ts)(H:Ords rs.length ts O)(S:Sol (az ts) (mw rs g ts O) (iJ ts) f):Keeps rs g ts (cw ts f):=by
 refine ⟨by unfold cw; rw [List.length_map,List.length_zipIdx],fun q hq=>by rw [kP hq,List.length_map],fun q hq=> ?_,fun s hs e he e' he' hne=> ?_⟩
 ·have hz:=mem_zip.mp hq
  have ev:a_ (cw ts f) q=(ar q.1).map fun s=>(s,f (q.2,s)):=by
   unfold a_
   rw [kP hq]
   exact (List.map_prod_left_eq_zip ..).symm
  have hvis:∀ s∈ar q.1,(q.2,s)∈az ts:=fun s h=>mem_visits.mpr ⟨q.1,hz,h⟩
  rw [ev]
  refine DO _ _ (fun u hu=> ?_) fun x hx=> ?_
  ·rw [List.head?_map] at hu
   cases hh:(ar q.1).head? with
   | none=>rw [hh] at hu; cases hu
   | some s=>
    rw [hh] at hu
    cases hu
    have:=S.rd _ (hvis s (List.mem_of_mem_head? hh))
    unfold iJ at this
    rw [show ts[(q.2,s).1]?=some q.1 from hz] at this
    exact this
  ·rw [← List.map_tail,List.zip_map] at hx
   obtain ⟨u,hu,e⟩:=List.mem_map.mp hx
   cases e
   have hw:((q.2,u.1),rs.getD u.1 0)∈mw rs g ts O (q.2,u.2):=List.mem_append_left _ ((qT (v:=(q.2,u.2)) hz).mpr ⟨u.1,hu,rfl⟩)
   exact S.wt _ (hvis _ (bB hu).2) _ hw
 ·obtain ⟨h1,e1⟩:=kh he
  obtain ⟨h2,e2⟩:=kh he'
  rw [kC h1] at e1
  rw [kC h2] at e2
  rw [e1,e2]
  exact pU (y9 C H S hs) e.2 ((H.mem s e.2 hs).mpr h1) e'.2 ((H.mem s e'.2 hs).mpr h2) hne
theorem Bj {α β:Type}{h:α→β}:∀ {l m:List α},(∀ x∈l,∀ y∈m,h x=h y→x=y)→l.map h=m.map h→l=m:=by
 intro l
 induction l with
 | nil=>intro m _ e; cases m with | nil=>rfl | cons y m=>cases e
 | cons x l ih=>
  intro m hi e
  cases m with
  | nil=>cases e
  | cons y m=>
   rw [List.map_cons,List.map_cons] at e
   injection e with e1 e2
   rw [hi x List.mem_cons_self y List.mem_cons_self e1,ih (fun a ha b hb=>hi a (cN ha) b (cN hb)) e2]
theorem Br (C:Ctx rs g ts)(H:Ords rs.length ts O)(S:Sol (az ts) (mw rs g ts O) (iJ ts) f){s:Nat}(hs:s < rs.length):kG ts (cw ts f) s=O.getD s []:=by
 have Kp:=pZ C H S
 have hb:=Kp.bound C
 have pw:=y9 C H S hs
 have hr:=fV C.ln hs
 have hg:=C.ln.gap
 have hap:1≤apart rs g s:=by unfold apart; omega
 have m1:=sX (s:=s) Kp.len hb C.few Kp.row
 have nd1:=nR (s:=s) Kp.len hb C.few
 have so:=ma (s:=s) Kp.len hb C.few
 have perm:(kG ts (cw ts f) s).Perm (O.getD s []):=(List.perm_ext_iff_of_nodup nd1 (H.nd s)).mpr fun k=>(m1 k).trans (H.mem s k hs).symm
 have p1:((kG ts (cw ts f) s).map fun k=>f (k,s)).Pairwise (· ≤ ·):=by
  rw [List.pairwise_map]
  refine ql (fun a b c h1 h2=>by omega) fun u hu=> ?_
  obtain ⟨h1,h2⟩:=bB hu
  have:=so u hu
  rwa [kC ((m1 _).mp h1),kC ((m1 _).mp h2)] at this
 have p2:((O.getD s []).map fun k=>f (k,s)).Pairwise (· ≤ ·):=by
  rw [List.pairwise_map]
  exact pw.imp fun {a b} h=>by omega
 have e:=j6 (perm.map fun k=>f (k,s)) p1 p2
 refine Bj (fun x hx y hy hxy=> ?_) e
 apply Classical.byContradiction
 intro hne
 rcases pU pw x (perm.mem_iff.mp hx) y hy hne with z | z <;> omega
theorem CP (C:Ctx rs g ts)(H:Ords rs.length ts O)(S:Sol (az ts) (mw rs g ts O) (iJ ts) f):OO rs.length ts (cw ts f)=O:=by
 apply List.ext_getElem
 ·unfold OO; rw [List.length_map,List.length_range,H.len]
 ·intro i h1 h2
  have hs:i < rs.length:=by rw [← H.len]; exact h2
  have e1:=vf (ts:=ts) (T:=cw ts f) hs
  rw [Br C H S hs,List.getD_eq_getElem?_getD,List.getD_eq_getElem?_getD,cC h1,cC h2] at e1
  exact e1
end
noncomputable def Aq (rs:List Int)(T:Pl)(q:Q):Int:=(aj T q.2).getD ((aj T q.2).length - 1) 0+rs.getD ((ar q.1).getD ((ar q.1).length - 1) 0) 0
noncomputable def ni (rs:List Int)(ts:List Tr)(T:Pl):List Int:=ts.zipIdx.map (Aq rs T)
theorem Bf {l:List Int}(h:0 < l.length):aA (av l) (.int (-1))= .ok (.int (l.getD (l.length - 1) 0)):=by
 rcases List.eq_nil_or_concat l with e | ⟨r0,m0,e⟩
 ·rw [e] at h; cases h
 ·rw [List.concat_eq_append] at e
  subst e
  unfold av
  rw [List.map_append,List.length_append]
  have:(r0 ++ [m0]).getD (r0.length+1 - 1) 0=m0:=by rw [Nat.add_sub_cancel,List.getD_eq_getElem?_getD,List.getElem?_append_right (Nat.le_refl _),Nat.sub_self]; rfl
  show _=Res.ok (D.int ((r0 ++ [m0]).getD (r0.length+1 - 1) 0))
  rw [this]
  exact ld (rV _ _)
theorem yH {w:List Nat}(h:0 < w.length):aA (.lst (aR w)) (.int (-1))= .ok (.int ((w.getD (w.length - 1) 0:Nat):Int)):=by
 rcases List.eq_nil_or_concat w with e | ⟨r0,m0,e⟩
 ·rw [e] at h; cases h
 ·rw [List.concat_eq_append] at e
  subst e
  unfold aR
  rw [List.map_append,List.length_append]
  have:(r0 ++ [m0]).getD (r0.length+1 - 1) 0=m0:=by rw [Nat.add_sub_cancel,List.getD_eq_getElem?_getD,List.getElem?_append_right (Nat.le_refl _),Nat.sub_self]; rfl
  show _=Res.ok (D.int (((r0 ++ [m0]).getD (r0.length+1 - 1) 0:Nat):Int))
  rw [this]
  exact ld (rV _ _)
theorem EQ {rs:List Int}{s:Nat}(h:s < rs.length):aA (.lst (rs.map D.int)) (.int (s:Int))= .ok (.int (rs.getD s 0)):=bq (g:=D.int) (cL h)
theorem yV {l:List Int}(h:l≠[]):mn [.lst (l.map D.int)]= .ok (.int (i7 l)):=by
 unfold mn
 dsimp only
 rw [cV]
 cases l with
 | nil=>exact absurd rfl h
 | cons a r=>rfl
theorem qu {rs:List Int}{g:Int}{ts:List Tr}{T:Pl}(C:Ctx rs g ts):ni rs ts T≠[]:=fun z=>by
 have:=congrArg List.length z
 unfold ni at this
 rw [List.length_map,List.length_zipIdx] at this
 have h1:=C.one
 rw [List.length_nil] at this
 omega
theorem Cm {α β:Type}{l:List α}{m:List β}{d:β}(h:m.length=l.length):l.zip m=l.zipIdx.map fun q=>(q.1,m.getD q.2 d):=by
 apply List.ext_getElem
 ·rw [List.length_zip,List.length_map,List.length_zipIdx]; omega
 ·intro i h1 h2
  rw [List.length_zip] at h1
  simp
  rw [cC (by omega)]
  rfl
section
variable{K:W.Frag}{CL:Addr}
theorem i3 {rs:List Int}{g:Int}{ts:List Tr}{T:Pl}(C:Ctx rs g ts)(Kp:Keeps rs g ts T):bT K CL [aG CL rs g,.lst (ts.map bO),.lst (T.map av)]= .ok (.int (i7 (ni rs ts T))):=by
 have hc:=jC (K:=K) (CL:=CL) C Kp
 have h5:=C.ln.few
 have ht:=C.few
 unfold bT
 refine (bK rfl).trans ?_
 have e0:aJ dk [aG CL rs g,.lst (ts.map bO),.lst (T.map av)]=[some (aG CL rs g),some (.lst (ts.map bO)),some (.lst (T.map av)),none]:=rfl
 rw [e0]
 unfold de
 have hlen:=Kp.len
 have ew:=mX (K:=K) (CL:=CL)  (g:=g) C.tr (show rs.length≤1000 by omega) C.one C.few
 have ew':cR K CL [aG CL rs g,.lst (ts.map bO)]= .ok (.lst (ts.map aC)):=ew
 refine gs [some (aG CL rs g),some (.lst (ts.map bO)),some (.lst (T.map av)),none] (by simp only [aN,hc]) ?_
 refine gs [some (aG CL rs g),some (.lst (ts.map bO)),some (.lst (T.map av)),some (.lst (rs.map D.int))] (by simp only [aN,Fl,eT]) ?_
 have hz:oA [.lst (ts.map aC),.lst (T.map av)]= .ok (ts.zipIdx.map fun q:Q=> .tup [aC q.1,av (aj T q.2)]):=by
  rw [lg,Cm (d:=[]) hlen,List.map_map]
  rfl
 have ec:aV (sZ (pC (bD (pC (ac 0) (pC (ac 1) pN)) (cR K CL)) (pC (ac 2) pN))) [none,none,some 3] (dL 0 1) yes (ae (ae (ac 1) (nG (kI 1)) aA) (ae (ac 2) (ae (ac 0) (nG (kI 1)) aA) aA) aO) [some (aG CL rs g),some (.lst (ts.map bO)),some (.lst (T.map av)),some (.lst (rs.map D.int))]= .ok (.lst ((ni rs ts T).map D.int)):=by
  rw [bn (xs:=ts.zipIdx) (c:=fun q:Q=> .tup [aC q.1,av (aj T q.2)]) (g:=fun q=>D.int (Aq rs T q)) (by simp only [aN,ew',hz]) (by rw [List.length_zipIdx]; omega) (fun q hq=>⟨_,rfl,?_⟩)]
  ·unfold ni; rw [List.map_map]; rfl
  ·have hg:=C.good hq
   have hp:=ot hg
   have hr:=Kp.row q hq
   have x1:aA (av (aj T q.2)) (.int (-1))=_:=Bf (by rw [hr]; exact hp)
   have x2:aA (aC q.1) (.int (-1))=_:=yH hp
   have x3:=EQ (cx hg _ (getD_mem (d:=0) (show (ar q.1).length - 1 < (ar q.1).length by omega)))
   have ecap:dN [none,none,some 3] [some (aG CL rs g),some (.lst (ts.map bO)),some (.lst (T.map av)),some (.lst (rs.map D.int))]=[none,none,some (.lst (rs.map D.int))]:=rfl
   rw [ecap]
   simp only [aN,x1,x2,x3]
   rfl
 simp only [aN,ec,yV (qu C)]
end
set_option maxHeartbeats 4000000
section
variable{rs:List Int}{g:Int}{ts:List Tr}{f:Vt→Int}{T:Pl}
theorem yP (Kp:Keeps rs g ts T)(hle:∀ v∈az ts,f v≤eC ts T v){q:Q}(hq:q∈ts.zipIdx){i:Nat}(hi:i < (ar q.1).length):(aj (cw ts f) q.2).getD i 0≤(aj T q.2).getD i 0:=by
 have hz:=mem_zip.mp hq
 have h1:=cC hi
 have hir:i < (aj T q.2).length:=by rw [Kp.row q hq]; exact hi
 have h2:=cC hir
 have hv:(q.2,(ar q.1)[i])∈az ts:=mem_visits.mpr ⟨q.1,hz,List.getElem_mem hi⟩
 have e1:(aj (cw ts f) q.2).getD i 0=f (q.2,(ar q.1)[i]):=by
  rw [kP hq,List.getD_eq_getElem?_getD,List.getElem?_map,h1]
  rfl
 have e2:(aj T q.2).getD i 0=eC ts T (q.2,(ar q.1)[i]):=by
  rw [kA hz h1 h2,List.getD_eq_getElem?_getD,h2]
  rfl
 rw [e1,e2]
 exact hle _ hv
theorem Ar (C:Ctx rs g ts)(Kp:Keeps rs g ts T)(hle:∀ v∈az ts,f v≤eC ts T v):i7 (ni rs ts (cw ts f))≤i7 (ni rs ts T):=by
 obtain ⟨h1,_⟩:=gF (qu C (T:=cw ts f))
 obtain ⟨_,h2⟩:=gF (qu C (T:=T))
 obtain ⟨q,hq,e⟩:=List.mem_map.mp h1
 have h3:=h2 (Aq rs T q) (List.mem_map.mpr ⟨q,hq,rfl⟩)
 have hp:=ot (C.good hq)
 have h4:=yP Kp hle hq (i:=(ar q.1).length - 1) (by omega)
 have l1:(aj (cw ts f) q.2).length=(ar q.1).length:=by rw [kP hq,List.length_map]
 have l2:=Kp.row q hq
 rw [← e]
 refine Int.le_trans ?_ h3
 unfold Aq
 rw [l1,l2]
 omega
end
section
variable{K:W.Frag}{CL:Addr}
theorem Da {l:List Int}{n:Nat}(h:n < l.length):iD none (some (n:Int)) (av l)= .ok (av (l.take n)):=by
 show Res.ok (D.lst (((l.map D.int).drop 0).take (HT.cB (l.map D.int).length (l.map D.int).length (some (n:Int)) - 0)))=_
 rw [HT.rj,List.drop_zero,List.length_map,Nat.sub_zero,← List.map_take,Nat.min_eq_left (Nat.le_of_lt h)]
 rfl
theorem C_ {l:List Int}{n:Nat}(h:n < l.length):iD (some (n:Int)) none (av l)= .ok (av (l.drop n)):=by
 show Res.ok (D.lst (((l.map D.int).drop (HT.cB (l.map D.int).length 0 (some (n:Int)))).take ((l.map D.int).length - HT.cB (l.map D.int).length 0 (some (n:Int)))))=_
 rw [HT.rj,List.length_map,Nat.min_eq_left (Nat.le_of_lt h),← List.map_drop,List.take_of_length_le (by rw [List.length_map,List.length_drop]; exact Nat.le_refl _)]
 rfl
noncomputable abbrev rL (ns rs:List Int)(g:Int)(ts:List Tr)(T:Pl)(o4 o5 o6 o7 o8:Option D):DS:=[some (.scr ns),some (.tup [.lst (rs.map D.int),.int g]),some (.lst (ts.map bO)),some (.lst (T.map av)),o4,o5,o6,o7,o8,none,none,none]
noncomputable def gN (T:Pl)(k n:Nat)(m:Int):Pl:=T.set k ((aj T k).take n ++ ((aj T k).drop n).map (· + m))
theorem Ec {ns rs:List Int}{g:Int}{ts:List Tr}{T:Pl}(C:Ctx rs g ts)(Kp:Keeps rs g ts T){i:Nat}(hi:i < 4){o5 o6 o7 o8:Option D}:∃ ρ',(ax (aQ 5 (bZ bc (bD (pC (ac 0) (pC (ae (kI 100) (ae (kI 3) (ac 4) dR) aO) (pC (c1 (ac 3) ba) pN))) (am K CL))))
  (ax (aQ 6 (bZ bc (bD (pC (ac 0) (pC (ae (kI 101) (ae (kI 3) (ac 4) dR) aO) (pC (c1 (ae (ac 3) (ac 5) aA) ba) pN))) (am K CL))))
  (ax (aQ 7 (bZ bc (bD (pC (ac 0) (pC (ae (kI 102) (ae (kI 3) (ac 4) dR) aO) (pC (kI 60) pN))) (am K CL))))
  (ax (aQ 8 (bZ bc (aV (sL (ac 3)) [none] (bw 0) yes (c1 (ac 0) gB))))
  (ax (lK 8 (ac 5) (bZ bc (ae (tT (ae (ac 3) (ac 5) aA) oN (oI (ac 6))) (aV (sL (tT (ae (ac 3) (ac 5) aA) (oI (ac 6)) oN)) [none,some 7] (bw 0) yes (ae (ac 0) (ac 1) aO)) aO)))
  (ii (eY (bD (pC (ae (ac 1) (kI 0) aA) (pC (ae (ac 1) (kI 1) aA) (pC (ac 2) (pC (ac 8) pN)))) (cW K CL))) (wW 3 8) nxt)))))) (rL ns rs g ts T (some (.int (i:Int))) o5 o6 o7 o8)= .nx ρ'∧∃ T' o5 o6 o7 o8,Keeps rs g ts T'∧ρ'=rL ns rs g ts T' (some (.int (i:Int))) o5 o6 o7 o8:=by
 have hf:=C.few; have ho:=C.one; have h5:=C.ln.few
 have hlen:=Kp.len
 have m3:dR (.int 3) (.int (i:Int))= .ok (.int (3 * (i:Int))):=kl (by omega) (by omega)
 -- the train
 have lT:ba [.lst (T.map av)]= .ok (.int (T.length:Int)):=cM
 have b1:=eG (ns:=ns) (k:=100+3 * (i:Int)) (many:=(T.length:Int)) (by omega)
 obtain ⟨k,hk⟩:∃ k:Nat,drawn ns (100+3 * (i:Int)) (T.length:Int)=(k:Int):=⟨(drawn ns (100+3 * (i:Int)) (T.length:Int)).toNat,by omega⟩
 have d1:=du (K:=K) (CL:=CL) (ns:=ns) (k:=100+3 * (i:Int)) (many:=(T.length:Int)) (by omega) (by omega) (by omega) (by omega)
 rw [hk] at d1 b1
 have hkT:k < T.length:=by omega
 have hkt:k < ts.length:=by omega
 have hz:(ts[k],k)∈ts.zipIdx:=mem_zip.mpr (cC hkt)
 have hrow:=Kp.row _ hz
 have hp:=ot (C.good hz)
 have hw5:=eA (C.good hz)
 dsimp only at hrow hp hw5
 have ixT:aA (.lst (T.map av)) (.int (k:Int))= .ok (av (aj T k)):=bq (cn hkT)
 -- the place
 have lR:ba [av (aj T k)]= .ok (.int ((aj T k).length:Int)):=cM
 have b2:=eG (ns:=ns) (k:=101+3 * (i:Int)) (many:=((aj T k).length:Int)) (by omega)
 obtain ⟨n,hn⟩:∃ n:Nat,drawn ns (101+3 * (i:Int)) ((aj T k).length:Int)=(n:Int):=⟨(drawn ns (101+3 * (i:Int)) ((aj T k).length:Int)).toNat,by omega⟩
 have d2:=du (K:=K) (CL:=CL) (ns:=ns) (k:=101+3 * (i:Int)) (many:=((aj T k).length:Int)) (by omega) (by omega) (by omega) (by omega)
 rw [hn] at d2 b2
 have hnR:n < (aj T k).length:=by omega
 -- the minutes
 have d3:=du (K:=K) (CL:=CL) (ns:=ns) (k:=102+3 * (i:Int)) (many:=60) (by omega) (by omega) (by omega) (by omega)
 generalize drawn ns (102+3 * (i:Int)) 60=m at d3
 have i0:aA (.tup [.lst (rs.map D.int),.int g]) (.int 0)= .ok (.lst (rs.map D.int)):=dP rfl
 have i1:aA (.tup [.lst (rs.map D.int),.int g]) (.int 1)= .ok (.int g):=dP rfl
 have cp:∀ o8,aV (sL (ac 3)) [none] (bw 0) yes (c1 (ac 0) gB) (fm bc (rL ns rs g ts T (some (.int (i:Int))) (some (.int (k:Int))) (some (.int (n:Int))) (some (.int m)) o8))= .ok (.lst (T.map av)):=fun o8=>bn (xs:=T) (c:=av) (g:=av) rfl (by omega) (fun r _=>⟨_,rfl,rfl⟩)
 have lo:=Da hnR
 have hiC:=C_ hnR
 have cq:aV (sL (tT (ae (ac 3) (ac 5) aA) (oI (ac 6)) oN)) [none,some 7] (bw 0) yes (ae (ac 0) (ac 1) aO) (fm bc (rL ns rs g ts T (some (.int (i:Int))) (some (.int (k:Int))) (some (.int (n:Int))) (some (.int m)) (some (.lst (T.map av)))))= .ok (av (((aj T k).drop n).map (· + m))):=by
  have er:av (((aj T k).drop n).map (· + m))= .lst (((aj T k).drop n).map fun x=>D.int (x+m)):=by unfold av; rw [List.map_map]; rfl
  rw [er]
  refine bn (xs:=(aj T k).drop n) (c:=D.int) (g:=fun x=>D.int (x+m)) (by simp only [aN,ixT,hiC]; rfl) (by rw [List.length_drop]; omega) (fun x _=>⟨_,rfl,?_⟩)
  show ae (ac 0) (ac 1) aO [some (.int x),some (.int m)]=_
  simp only [aN]
 have ad:aO (av ((aj T k).take n)) (av (((aj T k).drop n).map (· + m)))= .ok (av ((aj T k).take n ++ ((aj T k).drop n).map (· + m))):=by
  unfold av
  rw [sv (fv (by rw [List.length_map,List.length_map,List.length_map,List.length_take,List.length_drop]; omega)),List.map_append]
 have e8:lK 8 (ac 5) (bZ bc (ae (tT (ae (ac 3) (ac 5) aA) oN (oI (ac 6))) (aV (sL (tT (ae (ac 3) (ac 5) aA) (oI (ac 6)) oN)) [none,some 7] (bw 0) yes (ae (ac 0) (ac 1) aO)) aO)) (rL ns rs g ts T (some (.int (i:Int))) (some (.int (k:Int))) (some (.int (n:Int))) (some (.int m)) (some (.lst (T.map av))))= .nx (rL ns rs g ts T (some (.int (i:Int))) (some (.int (k:Int))) (some (.int (n:Int))) (some (.int m)) (some (.lst ((gN T k n m).map av)))):=by
  have hset:=qD (j:=8) (m:=k) (ρ:=rL ns rs g ts T (some (.int (i:Int))) (some (.int (k:Int))) (some (.int (n:Int))) (some (.int m)) (some (.lst (T.map av)))) (l:=T.map av) (d:=av ((aj T k).take n ++ ((aj T k).drop n).map (· + m))) (fi':=ac 5) (f:=bZ bc (ae (tT (ae (ac 3) (ac 5) aA) oN (oI (ac 6))) (aV (sL (tT (ae (ac 3) (ac 5) aA) (oI (ac 6)) oN)) [none,some 7] (bw 0) yes (ae (ac 0) (ac 1) aO)) aO)) rfl (by
    rw [yi,ym,cq]
    have e1:tT (ae (ac 3) (ac 5) aA) oN (oI (ac 6)) (fm bc (rL ns rs g ts T (some (.int (i:Int))) (some (.int (k:Int))) (some (.int (n:Int))) (some (.int m)) (some (.lst (T.map av)))))= .ok (av ((aj T k).take n)):=by simp only [aN,ixT,lo]
    rw [e1,aD,aD]
    exact ad) rfl (by rw [List.length_map]; exact hkT)
  rw [hset]
  have:(T.map av).set k (av ((aj T k).take n ++ ((aj T k).drop n).map (· + m)))=(gN T k n m).map av:=by unfold gN; rw [List.map_set]
  rw [this]
  rfl
 have sp1:(gN T k n m).length≤1000:=by unfold gN; rw [List.length_set]; omega
 have sp2:∀ r∈gN T k n m,r.length≤1000:=fun r hr=>by
  unfold gN at hr
  rcases List.mem_or_eq_of_mem_set hr with z | z
  ·exact Kp.bound C r z
  ·rw [z,List.length_append,List.length_map,List.length_take,List.length_drop]; omega
 have hk2:=uD (K:=K) (CL:=CL) C sp1 sp2
 generalize hb:(cF ts (gN T k n m) && (eB rs ts (gN T k n m) && iE rs g ts (gN T k n m)))=b at hk2
 have e5:aQ 5 (bZ bc (bD (pC (ac 0) (pC (ae (kI 100) (ae (kI 3) (ac 4) dR) aO) (pC (c1 (ac 3) ba) pN))) (am K CL))) (rL ns rs g ts T (some (.int (i:Int))) o5 o6 o7 o8)= .nx (rL ns rs g ts T (some (.int (i:Int))) (some (.int (k:Int))) o6 o7 o8):=by simp only [aN,m3,lT,d1]
 have e6:aQ 6 (bZ bc (bD (pC (ac 0) (pC (ae (kI 101) (ae (kI 3) (ac 4) dR) aO) (pC (c1 (ae (ac 3) (ac 5) aA) ba) pN))) (am K CL))) (rL ns rs g ts T (some (.int (i:Int))) (some (.int (k:Int))) o6 o7 o8)= .nx (rL ns rs g ts T (some (.int (i:Int))) (some (.int (k:Int))) (some (.int (n:Int))) o7 o8):=by simp only [aN,m3,ixT,lR,d2]
 have e7:aQ 7 (bZ bc (bD (pC (ac 0) (pC (ae (kI 102) (ae (kI 3) (ac 4) dR) aO) (pC (kI 60) pN))) (am K CL))) (rL ns rs g ts T (some (.int (i:Int))) (some (.int (k:Int))) (some (.int (n:Int))) o7 o8)= .nx (rL ns rs g ts T (some (.int (i:Int))) (some (.int (k:Int))) (some (.int (n:Int))) (some (.int m)) o8):=by simp only [aN,m3,d3]
 have e7b:aQ 8 (bZ bc (aV (sL (ac 3)) [none] (bw 0) yes (c1 (ac 0) gB))) (rL ns rs g ts T (some (.int (i:Int))) (some (.int (k:Int))) (some (.int (n:Int))) (some (.int m)) o8)= .nx (rL ns rs g ts T (some (.int (i:Int))) (some (.int (k:Int))) (some (.int (n:Int))) (some (.int m)) (some (.lst (T.map av)))):=by
  rw [yp,yi,cp]
  rfl
 rw [gc,e5,dQ,gc,e6,dQ,gc,e7,dQ,gc,e7b,dQ,gc,e8,dQ]
 cases b with
 | false=>exact (Gk (rL ns rs g ts T (some (.int (i:Int))) (some (.int (k:Int))) (some (.int (n:Int))) (some (.int m)) (some (.lst ((gN T k n m).map av)))) (by simp only [aN,i0,i1,hk2]) T _ _ _ _ Kp rfl)
 | true=>exact (Gk (rL ns rs g ts (gN T k n m) (some (.int (i:Int))) (some (.int (k:Int))) (some (.int (n:Int))) (some (.int m)) none) (by simp only [aN,i0,i1,hk2]; rfl) (gN T k n m) _ _ _ none (uA hb) rfl)
end
set_option maxHeartbeats 4000000
section
variable{K:W.Frag}{CL:Addr}
theorem BI {n:Nat}{l:List Nat}:bg (n+1) (.lst (aR l))=true:=nY fun _ _=>i_
theorem Ek {O:List (List Nat)}:uJ (cr O) (cr O)= .ok (.bl false):=vP (nY (n:=19) fun _ _=>BI (n:=18))
theorem yN {ns:List Int}(hns:ns.length≤63):yT K CL [.scr ns]= .ok (.bl true):=by
 refine mf (xo (K:=K) (CL:=CL) (ns:=ns) (base:=0) (by omega) (by omega)) fun J g GL el=> ?_
 have h5:=GL.few; have h1:=GL.one
 refine cy (tX (K:=K) (CL:=CL) (ns:=ns) (base:=20) (most:=5) (n:=J.length) (by omega) (by omega) h1 h5 (by omega) (by omega)) fun I tl tg et=> ?_
 have db:=eG (ns:=ns) (k:=20) (many:=5) (by omega)
 have C:Ctx J g I:=⟨GL,tg,by omega,by omega⟩
 have t5:=C.few
 have efl:=mm (K:=K) (CL:=CL) C
 have Kp0:=xi C
 have i0:aA (.tup [.lst (J.map D.int),.int g]) (.int 0)= .ok (.lst (J.map D.int)):=dP rfl
 have i1:aA (.tup [.lst (J.map D.int),.int g]) (.int 1)= .ok (.int g):=dP rfl
 have lrs:ba [.lst (J.map D.int)]= .ok (.int (J.length:Int)):=cM
 have lts:ba [.lst (I.map bO)]= .ok (.int (I.length:Int)):=cM
 have ein:=AZ (K:=K) (CL:=CL) GL
 unfold yT
 refine (bK rfl).trans ?_
 have e0:aJ rN [D.scr ns]=[some (.scr ns),none,none,none,none,none,none,none,none,none,none,none]:=rfl
 rw [e0]
 unfold vd
 refine gs [some (.scr ns),some (.tup [.lst (J.map D.int),.int g]),none,none,none,none,none,none,none,none,none,none] (by simp only [aN,el]) ?_
 refine gs [some (.scr ns),some (.tup [.lst (J.map D.int),.int g]),some (.lst (I.map bO)),none,none,none,none,none,none,none,none,none] (by simp only [aN,i0,lrs,et]) ?_
 refine gs (rL ns J g I (run J g I 26 (p0 I)) none none none none none) (by simp only [aN,i0,i1,efl]) ?_
 have r4:oS [.int (4:Int)]= .ok ((List.range 4).map fun (i:Nat)=>D.int (i:Int)):=dw (n:=4) (by omega)
 rw [gc,qz]
 have e4:sR1 (pC (kI 4) pN) (rL ns J g I (run J g I 26 (p0 I)) none none none none none)= .ok ((List.range 4).map fun (i:Nat)=>D.int (i:Int)):=by simp only [aN,r4]
 rw [e4,bp]
 refine gM (fun pre ρ=>∃ T L o5 o6 o7 o8,Keeps J g I T∧ρ=rL ns J g I T L o5 o6 o7 o8) ⟨_,none,none,none,none,none,Kp0,rfl⟩ (fun pre i post E ρ hZ209=> ?_) (fun P hZ210=> ?_)
 ·refine Hf (hZ209) fun T L o5 o6 o7 o8 Kp e=> ?_
  subst e
  have hi:i < 4:=List.mem_range.mp (by rw [E]; simp)
  obtain ⟨P,h1,T',p5,p6,p7,p8,Kp',e'⟩:=Ec (K:=K) (CL:=CL) (ns:=ns) C Kp hi (o5:=o5) (o6:=o6) (o7:=o7) (o8:=o8)
  exact ⟨_,rfl,P,h1,T',_,p5,p6,p7,p8,Kp',e'⟩
 ·refine Hf (hZ210) fun T L o5 o6 o7 o8 Kp e=> ?_
  subst e
  have ekp:=Kp.isT (K:=K) (CL:=CL) C
  have eoo:=l9 (K:=K) (CL:=CL) C Kp
  have H:=vT (n:=J.length) Kp.len (Kp.bound C) C.few Kp.row
  refine cy (oM (K:=K) (CL:=CL) C H (ET C Kp)) fun f elt Sf hle=> ?_
  have KpF:=pZ C H Sf
  have ekf:=KpF.isT (K:=K) (CL:=CL) C
  have eof:=l9 (K:=K) (CL:=CL) C KpF
  rw [CP C H Sf] at eof
  have ea1:=i3 (K:=K) (CL:=CL) C Kp
  have ea2:=i3 (K:=K) (CL:=CL) C KpF
  have hend:=Ar C Kp hle
  have nt:tf (.bl true) (.bl true)= .ok (.bl false):=rfl
  have j0:aA (.tup [.str (Str.ofString "table"),.lst ((cw I f).map av)]) (.int 0)= .ok (.str (Str.ofString "table")):=dP rfl
  have j1:aA (.tup [.str (Str.ofString "table"),.lst ((cw I f).map av)]) (.int 1)= .ok (.lst ((cw I f).map av)):=dP rfl
  generalize OO J.length I T=O at *
  refine gs [some (.scr ns),some (.tup [.lst (J.map D.int),.int g]),some (.lst (I.map bO)),some (.lst (T.map av)),L,o5,o6,o7,o8,some (aG CL J g),none,none] (by simp only [aN,i0,i1,ein]) ?_
  refine gs [some (.scr ns),some (.tup [.lst (J.map D.int),.int g]),some (.lst (I.map bO)),some (.lst (T.map av)),L,o5,o6,o7,o8,some (aG CL J g),none,none] (by simp only [aN,ekp,nt]) ?_
  refine gs [some (.scr ns),some (.tup [.lst (J.map D.int),.int g]),some (.lst (I.map bO)),some (.lst (T.map av)),L,o5,o6,o7,o8,some (aG CL J g),some (cr O),none] (by simp only [aN,eoo]) ?_
  refine gs [some (.scr ns),some (.tup [.lst (J.map D.int),.int g]),some (.lst (I.map bO)),some (.lst (T.map av)),L,o5,o6,o7,o8,some (aG CL J g),some (cr O),some (.tup [.str (Str.ofString "table"),.lst ((cw I f).map av)])] (by simp only [aN,elt]) ?_
  refine gs [some (.scr ns),some (.tup [.lst (J.map D.int),.int g]),some (.lst (I.map bO)),some (.lst (T.map av)),L,o5,o6,o7,o8,some (aG CL J g),some (cr O),some (.tup [.str (Str.ofString "table"),.lst ((cw I f).map av)])] (by simp only [aN,j0,j1,ekf,nt,eof,Ek]) ?_
  rw [gc,qz]
  have e5:sR1 (pC (c1 (ac 2) ba) pN) [some (.scr ns),some (.tup [.lst (J.map D.int),.int g]),some (.lst (I.map bO)),some (.lst (T.map av)),L,o5,o6,o7,o8,some (aG CL J g),some (cr O),some (.tup [.str (Str.ofString "table"),.lst ((cw I f).map av)])]= .ok ((List.range I.length).map fun (i:Nat)=>D.int (i:Int)):=by simp only [aN,lts,dw (show I.length < 1000000 by omega)]
  rw [e5,bp]
  refine gM (fun pre ρ=>∃ o5 o6,ρ=[some (.scr ns),some (.tup [.lst (J.map D.int),.int g]),some (.lst (I.map bO)),some (.lst (T.map av)),L,o5,o6,o7,o8,some (aG CL J g),some (cr O),some (.tup [.str (Str.ofString "table"),.lst ((cw I f).map av)])]) ⟨o5,o6,rfl⟩ (fun pre k post E ρ hZ211=> ?_) (fun P hZ212=> ?_)
  ·obtain ⟨o5,o6,e⟩:=hZ211
   subst e
   have hk:k < I.length:=List.mem_range.mp (by rw [E]; simp)
   have hz:(I[k],k)∈I.zipIdx:=mem_zip.mpr (cC hk)
   have hkT:k < T.length:=by rw [Kp.len]; exact hk
   have hkF:k < (cw I f).length:=by rw [KpF.len]; exact hk
   have x1:aA (.lst (T.map av)) (.int (k:Int))= .ok (av (aj T k)):=bq (cn hkT)
   have x2:aA (.lst ((cw I f).map av)) (.int (k:Int))= .ok (av (aj (cw I f) k)):=bq (cn hkF)
   have lR:ba [av (aj T k)]= .ok (.int ((aj T k).length:Int)):=cM
   have hrl:=Kp.bound C (aj T k) (List.mem_of_getElem? (cn hkT))
   refine ⟨_,rfl,?_⟩
   simp only [aN,x1,lR,dw (show (aj T k).length < 1000000 by omega)]
   refine kK (fun pre ρ=>∃ o6,ρ=[some (.scr ns),some (.tup [.lst (J.map D.int),.int g]),some (.lst (I.map bO)),some (.lst (T.map av)),L,some (.int (k:Int)),o6,o7,o8,some (aG CL J g),some (cr O),some (.tup [.str (Str.ofString "table"),.lst ((cw I f).map av)])]) ⟨o6,rfl⟩ (fun pre i post E ρ hZ213=> ?_) (fun P hZ214=>(by obtain ⟨o6,e⟩:=hZ214; exact ⟨_,o6,e⟩))
   obtain ⟨o6,e⟩:=hZ213
   subst e
   have hi:i < (aj T k).length:=List.mem_range.mp (by rw [E]; simp)
   have hiw:i < (ar I[k]).length:=by rw [← Kp.row _ hz]; exact hi
   have hiF:i < (aj (cw I f) k).length:=by rw [KpF.row _ hz]; exact hiw
   have y1:aA (av (aj T k)) (.int (i:Int))= .ok (.int ((aj T k).getD i 0)):=bq (cL hi)
   have y2:aA (av (aj (cw I f) k)) (.int (i:Int))= .ok (.int ((aj (cw I f) k).getD i 0)):=bq (cL hiF)
   have hc:=yP Kp hle hz hiw
   have hng:¬ (aj (cw I f) k).getD i 0 > (aj T k).getD i 0:=by dsimp only at hc; omega
   refine ⟨_,rfl,_,?_,some (.int (i:Int)),rfl⟩
   simp only [aN,j1,x1,x2,y1,y2,decide_eq_false hng]
  ·obtain ⟨o5,o6,e⟩:=hZ212
   subst e
   simp only [aN,j1,ea1,ea2,decide_eq_true hend]
end
set_option maxHeartbeats 4000000
theorem CU {l:W.OpenLaw}{w:World}{K:W.Frag}{h:Heap}{mg:Str→Option Value}{fa CL:Addr}(X:K.In h)(G:h.Ns mainGlobals mg)(hfa:mg "law" =some (.ref fa)){t0 t1 t2 t3 t4:Tok}
  (aCL:W.nsIn K mainGlobals "Line" =some (some (.ref CL)))
  (g1:FT K "check_line" iz)
  (g2:FT K "_law_drawn" iw)
  (g3:FT K "_law_line_by" dC)
  (g4:FT K "_law_trains_by" dS)
  (g5:FT K "_law_way" fI)
  (g6:FT K "_law_kept" ja)
  (g7:FT K "_law_first_come" bj)
  (g8:FT K "check_train" gq)
  (g9:FT K "way" zF)
  (g10:FT K "ways" rq)
  (g11:FT K "entries_on" iA)
  (g12:FT K "is_whole" fJ)
  (g13:FT K "all_in_time" gl)
  (g14:FT K "all_apart" jb)
  (g15:FT K "keeps" rn)
  (g16:FT K "check_table" gn)
  (g17:FT K "order_on" iB)
  (g18:FT K "orders_of" fX)
  (g19:FT K "last_arrival" dG)
  (g20:FT K "check_orders" dF)
  (g21:FT K "waits_of" jY)
  (g22:FT K "held_by" js)
  (g23:FT K "freed" mQ)
  (g24:FT K "in_turn" lJ)
  (g25:FT K "least_enters" dH)
  (g26:FT K "row_of" kT)
  (g27:FT K "table_of" iC)
  (g28:FT K "least_table" gr)
  (g29:FT K "law" kQ)
  (g30:FM K CL "__init__" "Line.__init__" uV)
  (g31:FM K CL "runs" "Line.runs" uW)
  (g32:FM K CL "clear" "Line.clear" rm)
  (pg:W.plainGet K CL Str.empty=true)
  (hd:W.hasDictIn K CL=true)
  (po:W.plainOver K CL=true)
  (sa:W.findIn K (.ref CL) "__setattr__" =some (some (.builtin "object.__setattr__")))
  (mk:W.makesIn K CL=true)
  (kc:W.keepIn K (.ref CL)=true)
  (nM:W.findIn K (.ref CL) "minutes" =some none)
  (nG:W.findIn K (.ref CL) "gap" =some none)
  (z0:W.nsIn K mainGlobals "len" =some none)
  (z1:W.nsIn K mainGlobals "list" =some none)
  (z2:W.nsIn K mainGlobals "range" =some none)
  (z3:W.nsIn K mainGlobals "min" =some none)
  (z4:W.nsIn K mainGlobals "max" =some none)
  (z5:W.nsIn K mainGlobals "tuple" =some none)
  (z6:W.nsIn K mainGlobals "sorted" =some none)
  (z7:W.nsIn K mainGlobals "enumerate" =some none)
  (z8:W.nsIn K mainGlobals "zip" =some none)
  (z9:W.nsIn K mainGlobals "abs" =some none)
  (w0:W.nsIn K mainGlobals "MOST_STRETCHES" =some (some (.int 5 t0)))
  (w1:W.nsIn K mainGlobals "MOST_RUN" =some (some (.int 20 t1)))
  (w2:W.nsIn K mainGlobals "MOST_CLEAR" =some (some (.int 5 t2)))
  (w3:W.nsIn K mainGlobals "MOST_TRAINS" =some (some (.int 5 t3)))
  (w4:W.nsIn K mainGlobals "MOST_READY" =some (some (.int 60 t4))) :
  ∃ fd:FuncData,(∀ (s:Shared) (v:Value),BindsTo s fd ⟨[v],[]⟩ [("script",v)])∧∀ base:Heap,K.In base→base.Ns mainGlobals mg→FnOk l.prog w K mg base (CXF l.prog w) 8 fa fd ["script"] (wm K):=by
 obtain ⟨f,e,m,t,c,k,d⟩:=g29
 cases hfa.symm.trans (W.mg_of X G e)
 have T:Txt K mg CL:={ mgL:=W.mg_of X G aCL,cl:=⟨pg,hd,po,sa⟩,nM:=nM,nG:=nG,b_len:=W.mg_none_of X G z0,b_list:=W.mg_none_of X G z1,b_range:=W.mg_none_of X G z2,b_min:=W.mg_none_of X G z3,b_max:=W.mg_none_of X G z4,b_tuple:=W.mg_none_of X G z5,b_sorted:=W.mg_none_of X G z6,b_enumerate:=W.mg_none_of X G z7,b_zip:=W.mg_none_of X G z8,b_abs:=W.mg_none_of X G z9,mS:=⟨_,W.mg_of X G w0⟩,mR:=⟨_,W.mg_of X G w1⟩,mC:=⟨_,W.mg_of X G w2⟩,mT:=⟨_,W.mg_of X G w3⟩,mY:=⟨_,W.mg_of X G w4⟩ }
 obtain ⟨f30,a30,F30⟩:=g30
 obtain ⟨d30,e30⟩:=F30.mk1
 obtain ⟨f31,a31,F31⟩:=g31
 obtain ⟨d31,e31⟩:=F31.mk1
 obtain ⟨f32,a32,F32⟩:=g32
 obtain ⟨d32,e32⟩:=F32.mk1
 refine ⟨W.fnOf "law" "law" (h_ kQ) (cK kQ) (ai kQ) .none .none .none (.str m t) none (.ref c) .none,fun s v=> .of_eq rfl,fun base _ _=> ?_⟩
 have C_runs:CalM l.prog w K mg base CL "runs" 1 (d8 CL):=⟨T.cl,f31,_,⟨a31,F31.fn,F31.kp⟩,Bo e31 T,e31.binds fun _ _ _ _ _ _=>Bh fun _=>rfl⟩
 have C_clear:CalM l.prog w K mg base CL "clear" 1 (ij CL):=⟨T.cl,f32,_,⟨a32,F32.fn,F32.kp⟩,y8 e32 T,e32.binds fun _ _ _ _ _ _=>Bh fun _=>rfl⟩
 have C_check_line:=hJ (P:=l.prog) (w:=w) (base:=base) T (k7 X G g1 fun _ _ _ _ _ _=>sP fun _ _=>rfl) 
 have C_Line:CalI l.prog w K mg base "Line" CL 2 ["self","runs","clear"] (jF K CL):=⟨yS,T.mgL,f30,_,⟨mk,a30,F30.fn,kc⟩,Bm e30 T C_check_line,e30.binds fun _ _ _ _ _ _=>jw fun _ _ _=>rfl⟩
 have C__law_drawn:=aI (P:=l.prog) (w:=w) (base:=base) T (k7 X G g2 fun _ _ _ _ _ _=>jw fun _ _ _=>rfl) 
 have C__law_line_by:=eZ (P:=l.prog) (w:=w) (base:=base) T (k7 X G g3 fun _ _ _ _ _ _=>sP fun _ _=>rfl) C__law_drawn
 have C__law_trains_by:=dM (P:=l.prog) (w:=w) (base:=base) T (k7 X G g4 fun _ _ _ _ _ _=>Eg fun _ _ _ _=>rfl) C__law_drawn
 have C__law_way:=cQ (P:=l.prog) (w:=w) (base:=base) T (k7 X G g5 fun _ _ _ _ _ _=>Bh fun _=>rfl) 
 have C__law_kept:=iS (P:=l.prog) (w:=w) (base:=base) T (k7 X G g6 fun _ _ _ _ _ _=>Eg fun _ _ _ _=>rfl) C__law_way
 have C__law_first_come:=dm (P:=l.prog) (w:=w) (base:=base) T (k7 X G g7 fun _ _ _ _ _ _=>jw fun _ _ _=>rfl) C__law_way
 have C_check_train:=f_ (P:=l.prog) (w:=w) (base:=base) T (k7 X G g8 fun _ _ _ _ _ _=>sP fun _ _=>rfl)  C_runs
 have C_way:=x7 (P:=l.prog) (w:=w) (base:=base) T (k7 X G g9 fun _ _ _ _ _ _=>sP fun _ _=>rfl) C_check_train
 have C_ways:=hV (P:=l.prog) (w:=w) (base:=base) T (k7 X G g10 fun _ _ _ _ _ _=>sP fun _ _=>rfl) C_way
 have C_entries_on:=dn (P:=l.prog) (w:=w) (base:=base) T (k7 X G g11 fun _ _ _ _ _ _=>jw fun _ _ _=>rfl) 
 have C_is_whole:=jL (P:=l.prog) (w:=w) (base:=base) T (k7 X G g12 fun _ _ _ _ _ _=>sP fun _ _=>rfl) 
 have C_all_in_time:=f9 (P:=l.prog) (w:=w) (base:=base) T (k7 X G g13 fun _ _ _ _ _ _=>Eg fun _ _ _ _=>rfl)  C_runs
 have C_all_apart:=iT (P:=l.prog) (w:=w) (base:=base) T (k7 X G g14 fun _ _ _ _ _ _=>jw fun _ _ _=>rfl) C_entries_on C_runs C_clear
 have C_keeps:=ji (P:=l.prog) (w:=w) (base:=base) T (k7 X G g15 fun _ _ _ _ _ _=>jw fun _ _ _=>rfl) C_all_apart C_all_in_time C_is_whole C_ways
 have C_check_table:=cG (P:=l.prog) (w:=w) (base:=base) T (k7 X G g16 fun _ _ _ _ _ _=>jw fun _ _ _=>rfl) C_keeps
 have C_order_on:=jM (P:=l.prog) (w:=w) (base:=base) T (k7 X G g17 fun _ _ _ _ _ _=>jw fun _ _ _=>rfl) C_entries_on
 have C_orders_of:=fS (P:=l.prog) (w:=w) (base:=base) T (k7 X G g18 fun _ _ _ _ _ _=>jw fun _ _ _=>rfl) C_check_table C_order_on C_ways C_runs
 have C_last_arrival:=dq (P:=l.prog) (w:=w) (base:=base) T (k7 X G g19 fun _ _ _ _ _ _=>jw fun _ _ _=>rfl) C_check_table C_ways C_runs
 have C_check_orders:=e_ (P:=l.prog) (w:=w) (base:=base) T (k7 X G g20 fun _ _ _ _ _ _=>jw fun _ _ _=>rfl) 
 have C_waits_of:=jO (P:=l.prog) (w:=w) (base:=base) T (k7 X G g21 fun _ _ _ _ _ _=>jw fun _ _ _=>rfl) C_check_orders C_runs C_clear
 have C_held_by:=k_ (P:=l.prog) (w:=w) (base:=base) T (k7 X G g22 fun _ _ _ _ _ _=>jw fun _ _ _=>rfl) 
 have C_freed:=mF (P:=l.prog) (w:=w) (base:=base) T (k7 X G g23 fun _ _ _ _ _ _=>sP fun _ _=>rfl) C_held_by
 have C_in_turn:=la (P:=l.prog) (w:=w) (base:=base) T (k7 X G g24 fun _ _ _ _ _ _=>Bh fun _=>rfl) C_freed
 have C_least_enters:=ff (P:=l.prog) (w:=w) (base:=base) T (k7 X G g25 fun _ _ _ _ _ _=>jw fun _ _ _=>rfl) 
 have C_row_of:=m5 (P:=l.prog) (w:=w) (base:=base) T (k7 X G g26 fun _ _ _ _ _ _=>jw fun _ _ _=>rfl) 
 have C_table_of:=jN (P:=l.prog) (w:=w) (base:=base) T (k7 X G g27 fun _ _ _ _ _ _=>sP fun _ _=>rfl) C_row_of
 have C_least_table:=gb (P:=l.prog) (w:=w) (base:=base) T (k7 X G g28 fun _ _ _ _ _ _=>jw fun _ _ _=>rfl) C_in_turn C_least_enters C_table_of C_waits_of C_ways
 exact Bn (Fy (P:=l.prog) (w:=w) (base:=base) T (yz (st:=kQ) k d (qQ k)) C__law_drawn C__law_first_come C__law_kept C__law_line_by C__law_trains_by C_keeps C_last_arrival C_least_table C_orders_of C_Line) fun ns hns=>K05.yN hns
noncomputable def kc (x y:Str)(t:Nat)(l n f:Int)(r:Nat)(w m:Int):Obj:=⟨.type "code",none,.fields #[.str x t,.str y (t+1),.str "/claim/cut.py" (t+2),.int l 0,.int n 0,.int 0 0,.int 0 0,.int f 0,.ref r,.bool true,.int w 0,.ref (r+1),.none,.ref (r+2),.ref (r+3),.ref (r+4),.int m 0,.int l 0,.str "/claim/cut.py" (m.toNat+1)],#[]⟩
noncomputable def kn (x y:Str)(t:Nat)(l n f:Int)(r:Nat)(w m:Int):Obj:=⟨.type "code",none,.fields #[.str x t,.str y (t+1),.str "/claim/cut.py" (t+2),.int l 0,.int n 0,.int 0 0,.int 0 0,.int f 0,.ref r,.bool true,.int w 0,.ref (r+1),.none,.none,.none,.ref (r+2),.int m 0,.int l 0,.str "/claim/cut.py" (m.toNat+1)],#[]⟩
noncomputable def kd (P:Params)(l:List (Str×Nat×Value))(n:Nat):Obj:=⟨.type "dict",none,.dict (l.map fun e=>⟨PyData.keyHash P e.1,.str e.1 e.2.1,e.2.2⟩).toArray n,#[]⟩
noncomputable def Go (t:List (Str×Nat×Value)):List (Str×Nat×Value):=("__name__",165,.str "law_haltline_k05_whole_no_earlier_table" 539) :: ("__doc__",166,.none) :: ("__package__",167,.none) :: ("__loader__",168,.builtin "__main__.__loader__#opaque") :: ("__spec__",169,.none) :: ("__annotations__",170,.ref 6) :: ("__builtins__",171,.ref 4) :: t
noncomputable def Gp (t:List (Str×Nat×Value)):List (Str×Nat×Value):=("__file__",173,.str "/claim/cut.py" 172) :: ("__cached__",174,.none) :: ("HaltError",206,.ref 24) :: ("BadLine",222,.ref 37) :: ("BadTrains",238,.ref 49) :: ("BadOrders",254,.ref 61) :: ("BadTable",270,.ref 73) :: t
noncomputable def Gq (t:List (Str×Nat×Value)):List (Str×Nat×Value):=("MOST_STRETCHES",274,.int 5 273) :: ("MOST_RUN",276,.int 20 275) :: ("MOST_CLEAR",278,.int 5 277) :: ("MOST_TRAINS",280,.int 5 279) :: ("MOST_READY",282,.int 60 281) :: ("Line",327,.ref 106) :: ("check_line",336,.ref 117) :: t
noncomputable def Gr (t:List (Str×Nat×Value)):List (Str×Nat×Value):=("way",346,.ref 124) :: ("check_train",357,.ref 131) :: ("ways",363,.ref 136) :: ("waits_of",383,.ref 143) :: ("check_orders",389,.ref 148) :: ("in_turn",398,.ref 155) :: ("freed",404,.ref 160) :: t
noncomputable def Gs (t:List (Str×Nat×Value)):List (Str×Nat×Value):=("held_by",410,.ref 165) :: ("ring_of",416,.ref 170) :: ("least_table",430,.ref 177) :: ("least_enters",436,.ref 182) :: ("table_of",442,.ref 187) :: ("row_of",448,.ref 192) :: ("keeps",460,.ref 199) :: t
noncomputable def Gu (t:List (Str×Nat×Value)):List (Str×Nat×Value):=("orders_of",466,.ref 204) :: ("last_arrival",472,.ref 209) :: ("check_table",481,.ref 216) :: ("is_whole",487,.ref 221) :: ("all_in_time",503,.ref 228) :: ("all_apart",518,.ref 235) :: ("order_on",524,.ref 240) :: t
noncomputable def Gv (t:List (Str×Nat×Value)):List (Str×Nat×Value):=("entries_on",538,.ref 247) :: ("_law_drawn",551,.ref 254) :: ("_law_line_by",557,.ref 259) :: ("_law_trains_by",571,.ref 266) :: ("_law_way",577,.ref 271) :: ("_law_users",583,.ref 276) :: ("_law_kept",601,.ref 283) :: t
noncomputable def Gw (t:List (Str×Nat×Value)):List (Str×Nat×Value):=("_law_orders",607,.ref 288) :: ("_law_first_come",613,.ref 293) :: ("law",619,.ref 298) :: t
noncomputable def Cr (P:Params) :Obj×Obj×Obj×Obj×Obj×Obj×Obj×Obj:=(kd P (Go (Gp (Gq (Gr (Gs (Gu (Gv (Gw [])))))))) 52,kd P (("__module__",196,.str "haltline.errors" 187) :: ("__firstlineno__",200,.int 2 199) :: ("__static_attributes__",201,.ref 22) :: ("__weakref__",203,.ref 25) :: ("__doc__",204,.none) :: []) 3,⟨.type "type",none,.cls ⟨"HaltError",[.type "ValueError"],[.ref 24,.type "ValueError",.type "Exception",.type "BaseException",.type "object"],23,"HaltError",true,[],[.ref 37,.ref 49,.ref 61,.ref 73],false,none,false⟩,#[some (.ref 15),none,some (.str "HaltError" 189),some (.str "HaltError" 197),some (.builtin "ValueError.__new__"),some (.bool true)]⟩,kd P (("__module__",214,.str "haltline.errors" 187) :: ("__firstlineno__",218,.int 4 217) :: ("__static_attributes__",219,.ref 35) :: ("__doc__",220,.none) :: []) 2,⟨.type "type",none,.cls ⟨"BadLine",[.ref 24],[.ref 37,.ref 24,.type "ValueError",.type "Exception",.type "BaseException",.type "object"],36,"BadLine",true,[],[],false,none,false⟩,#[some (.ref 28),none,some (.str "BadLine" 207),some (.str "BadLine" 215),some (.builtin "ValueError.__new__"),some (.bool true)]⟩,kd P (("__module__",230,.str "haltline.errors" 187) :: ("__firstlineno__",234,.int 6 233) :: ("__static_attributes__",235,.ref 47) :: ("__doc__",236,.none) :: []) 2,⟨.type "type",none,.cls ⟨"BadTrains",[.ref 24],[.ref 49,.ref 24,.type "ValueError",.type "Exception",.type "BaseException",.type "object"],48,"BadTrains",true,[],[],false,none,false⟩,#[some (.ref 40),none,some (.str "BadTrains" 223),some (.str "BadTrains" 231),some (.builtin "ValueError.__new__"),some (.bool true)]⟩,kd P (("__module__",246,.str "haltline.errors" 187) :: ("__firstlineno__",250,.int 8 249) :: ("__static_attributes__",251,.ref 59) :: ("__doc__",252,.none) :: []) 2)
noncomputable def Cs (P:Params) :Obj×Obj×Obj×Obj×Obj×Obj×Obj×Obj:=(⟨.type "type",none,.cls ⟨"BadOrders",[.ref 24],[.ref 61,.ref 24,.type "ValueError",.type "Exception",.type "BaseException",.type "object"],60,"BadOrders",true,[],[],false,none,false⟩,#[some (.ref 52),none,some (.str "BadOrders" 239),some (.str "BadOrders" 247),some (.builtin "ValueError.__new__"),some (.bool true)]⟩,kd P (("__module__",262,.str "haltline.errors" 187) :: ("__firstlineno__",266,.int 10 265) :: ("__static_attributes__",267,.ref 71) :: ("__doc__",268,.none) :: []) 2,⟨.type "type",none,.cls ⟨"BadTable",[.ref 24],[.ref 73,.ref 24,.type "ValueError",.type "Exception",.type "BaseException",.type "object"],72,"BadTable",true,[],[],false,none,false⟩,#[some (.ref 64),none,some (.str "BadTable" 255),some (.str "BadTable" 263),some (.builtin "ValueError.__new__"),some (.bool true)]⟩,kc "__init__" "Line.__init__" 295 20 3 3 83 181 301,kf "__init__" "Line.__init__" (jk (top 12) 0) "haltline.line" 271 88,kc "runs" "Line.runs" 304 25 1 3 90 181 308,kf "runs" "Line.runs" (jk (top 12) 1) "haltline.line" 271 95,kc "clear" "Line.clear" 311 28 1 3 97 181 315)
noncomputable def Ct (P:Params) :Obj×Obj×Obj×Obj×Obj×Obj×Obj×Obj:=(kf "clear" "Line.clear" (jk (top 12) 2) "haltline.line" 271 102,kd P (("__module__",290,.str "haltline.line" 271) :: ("__firstlineno__",294,.int 18 293) :: ("__init__",303,.ref 89) :: ("runs",310,.ref 96) :: ("clear",317,.ref 103) :: ("__static_attributes__",320,.ref 104) :: ("__dict__",322,.ref 107) :: ("__weakref__",324,.ref 108) :: ("__doc__",325,.none) :: []) 4,⟨.type "type",none,.cls ⟨"Line",[.type "object"],[.ref 106,.type "object"],105,"Line",true,[],[],false,none,false⟩,#[none,none,some (.str "Line" 283),some (.str "Line" 291),some (.builtin "object.__new__"),some (.bool true)]⟩,kc "check_line" "check_line" 328 30 2 3 111 181 334,kf "check_line" "check_line" (top 13) "haltline.line" 271 116,kc "way" "way" 337 38 2 3 118 181 344,kf "way" "way" (top 14) "haltline.line" 271 123,kc "check_train" "check_train" 347 45 2 3 125 181 355)
noncomputable def Cu (P:Params) :Obj×Obj×Obj×Obj×Obj×Obj×Obj×Obj:=(kf "check_train" "check_train" (top 15) "haltline.line" 271 130,kn "ways" "ways" 358 57 2 3 132 181 361,kf "ways" "ways" (top 16) "haltline.line" 271 135,kc "waits_of" "waits_of" 366 62 3 3 137 181 381,kf "waits_of" "waits_of" (top 18) "haltline.waits" 364 142,kn "check_orders" "check_orders" 384 76 3 3 144 181 387,kf "check_orders" "check_orders" (top 19) "haltline.waits" 364 147,kc "in_turn" "in_turn" 390 83 1 3 149 181 396)
noncomputable def Cv (P:Params) :Obj×Obj×Obj×Obj×Obj×Obj×Obj×Obj:=(kf "in_turn" "in_turn" (top 20) "haltline.waits" 364 154,kn "freed" "freed" 399 90 2 3 156 181 402,kf "freed" "freed" (top 21) "haltline.waits" 364 159,kn "held_by" "held_by" 405 92 3 3 161 181 408,kf "held_by" "held_by" (top 22) "haltline.waits" 364 164,kn "ring_of" "ring_of" 411 94 2 3 166 181 414,kf "ring_of" "ring_of" (top 23) "haltline.waits" 364 169,kc "least_table" "least_table" 419 102 3 3 171 181 428)
noncomputable def Cw (P:Params) :Obj×Obj×Obj×Obj×Obj×Obj×Obj×Obj:=(kf "least_table" "least_table" (top 25) "haltline.times" 417 176,kn "least_enters" "least_enters" 431 109 3 3 178 181 434,kf "least_enters" "least_enters" (top 26) "haltline.times" 417 181,kn "table_of" "table_of" 437 115 2 3 183 181 440,kf "table_of" "table_of" (top 27) "haltline.times" 417 186,kn "row_of" "row_of" 443 117 3 3 188 181 446,kf "row_of" "row_of" (top 28) "haltline.times" 417 191,kc "keeps" "keeps" 451 120 3 3 193 181 458)
noncomputable def kk6 (P:Params) :Obj×Obj×Obj×Obj×Obj×Obj×Obj×Obj:=(kf "keeps" "keeps" (top 30) "haltline.tables" 449 198,kn "orders_of" "orders_of" 461 125 3 3 200 181 464,kf "orders_of" "orders_of" (top 31) "haltline.tables" 449 203,kn "last_arrival" "last_arrival" 467 129 3 3 205 181 470,kf "last_arrival" "last_arrival" (top 32) "haltline.tables" 449 208,kc "check_table" "check_table" 473 133 3 3 210 181 479,kf "check_table" "check_table" (top 33) "haltline.tables" 449 215,kn "is_whole" "is_whole" 482 136 2 3 217 181 485)
noncomputable def Cy (P:Params) :Obj×Obj×Obj×Obj×Obj×Obj×Obj×Obj:=(kf "is_whole" "is_whole" (top 34) "haltline.tables" 449 220,kc "all_in_time" "all_in_time" 488 138 4 3 222 181 501,kf "all_in_time" "all_in_time" (top 35) "haltline.tables" 449 227,kc "all_apart" "all_apart" 504 147 3 3 229 181 516,kf "all_apart" "all_apart" (top 36) "haltline.tables" 449 234,kn "order_on" "order_on" 519 155 3 3 236 181 522,kf "order_on" "order_on" (top 37) "haltline.tables" 449 239,kc "entries_on" "entries_on" 525 157 3 3 241 181 536)
noncomputable def Cz (P:Params) :Obj×Obj×Obj×Obj×Obj×Obj×Obj×Obj:=(kf "entries_on" "entries_on" (top 38) "haltline.tables" 449 246,kc "_law_drawn" "_law_drawn" 541 165 3 3 248 181 549,kf "_law_drawn" "_law_drawn" (top 40) "law_haltline_k05_whole_no_earlier_table" 539 253,kn "_law_line_by" "_law_line_by" 552 172 2 3 255 181 555,kf "_law_line_by" "_law_line_by" (top 41) "law_haltline_k05_whole_no_earlier_table" 539 258,kc "_law_trains_by" "_law_trains_by" 558 176 4 3 260 181 569,kf "_law_trains_by" "_law_trains_by" (top 42) "law_haltline_k05_whole_no_earlier_table" 539 265,kn "_law_way" "_law_way" 572 186 1 3 267 181 575)
noncomputable def Eb (P:Params) :Obj×Obj×Obj×Obj×Obj×Obj×Obj:=(kf "_law_way" "_law_way" (top 43) "law_haltline_k05_whole_no_earlier_table" 539 270,kc "_law_kept" "_law_kept" 584 192 4 3 277 181 599,kf "_law_kept" "_law_kept" (top 45) "law_haltline_k05_whole_no_earlier_table" 539 282,kn "_law_first_come" "_law_first_come" 608 221 3 3 289 181 611,kf "_law_first_come" "_law_first_come" (top 47) "law_haltline_k05_whole_no_earlier_table" 539 292,kn "law" "law" 614 236 1 3 294 181 617,kf "law" "law" (top 48) "law_haltline_k05_whole_no_earlier_table" 539 297)
noncomputable def KK (P:Params):W.Frag:=
 (nat_lit 3,(Cr P).1) ::
 (nat_lit 23,(Cr P).2.1) ::
 (nat_lit 24,(Cr P).2.2.1) ::
 (nat_lit 36,(Cr P).2.2.2.1) ::
 (nat_lit 37,(Cr P).2.2.2.2.1) ::
 (nat_lit 48,(Cr P).2.2.2.2.2.1) ::
 (nat_lit 49,(Cr P).2.2.2.2.2.2.1) ::
 (nat_lit 60,(Cr P).2.2.2.2.2.2.2) ::
 (nat_lit 61,(Cs P).1) ::
 (nat_lit 72,(Cs P).2.1) ::
 (nat_lit 73,(Cs P).2.2.1) ::
 (nat_lit 88,(Cs P).2.2.2.1) ::
 (nat_lit 89,(Cs P).2.2.2.2.1) ::
 (nat_lit 95,(Cs P).2.2.2.2.2.1) ::
 (nat_lit 96,(Cs P).2.2.2.2.2.2.1) ::
 (nat_lit 102,(Cs P).2.2.2.2.2.2.2) ::
 (nat_lit 103,(Ct P).1) ::
 (nat_lit 105,(Ct P).2.1) ::
 (nat_lit 106,(Ct P).2.2.1) ::
 (nat_lit 116,(Ct P).2.2.2.1) ::
 (nat_lit 117,(Ct P).2.2.2.2.1) ::
 (nat_lit 123,(Ct P).2.2.2.2.2.1) ::
 (nat_lit 124,(Ct P).2.2.2.2.2.2.1) ::
 (nat_lit 130,(Ct P).2.2.2.2.2.2.2) ::
 (nat_lit 131,(Cu P).1) ::
 (nat_lit 135,(Cu P).2.1) ::
 (nat_lit 136,(Cu P).2.2.1) ::
 (nat_lit 142,(Cu P).2.2.2.1) ::
 (nat_lit 143,(Cu P).2.2.2.2.1) ::
 (nat_lit 147,(Cu P).2.2.2.2.2.1) ::
 (nat_lit 148,(Cu P).2.2.2.2.2.2.1) ::
 (nat_lit 154,(Cu P).2.2.2.2.2.2.2) ::
 (nat_lit 155,(Cv P).1) ::
 (nat_lit 159,(Cv P).2.1) ::
 (nat_lit 160,(Cv P).2.2.1) ::
 (nat_lit 164,(Cv P).2.2.2.1) ::
 (nat_lit 165,(Cv P).2.2.2.2.1) ::
 (nat_lit 169,(Cv P).2.2.2.2.2.1) ::
 (nat_lit 170,(Cv P).2.2.2.2.2.2.1) ::
 (nat_lit 176,(Cv P).2.2.2.2.2.2.2) ::
 (nat_lit 177,(Cw P).1) ::
 (nat_lit 181,(Cw P).2.1) ::
 (nat_lit 182,(Cw P).2.2.1) ::
 (nat_lit 186,(Cw P).2.2.2.1) ::
 (nat_lit 187,(Cw P).2.2.2.2.1) ::
 (nat_lit 191,(Cw P).2.2.2.2.2.1) ::
 (nat_lit 192,(Cw P).2.2.2.2.2.2.1) ::
 (nat_lit 198,(Cw P).2.2.2.2.2.2.2) ::
 (nat_lit 199,(kk6 P).1) ::
 (nat_lit 203,(kk6 P).2.1) ::
 (nat_lit 204,(kk6 P).2.2.1) ::
 (nat_lit 208,(kk6 P).2.2.2.1) ::
 (nat_lit 209,(kk6 P).2.2.2.2.1) ::
 (nat_lit 215,(kk6 P).2.2.2.2.2.1) ::
 (nat_lit 216,(kk6 P).2.2.2.2.2.2.1) ::
 (nat_lit 220,(kk6 P).2.2.2.2.2.2.2) ::
 (nat_lit 221,(Cy P).1) ::
 (nat_lit 227,(Cy P).2.1) ::
 (nat_lit 228,(Cy P).2.2.1) ::
 (nat_lit 234,(Cy P).2.2.2.1) ::
 (nat_lit 235,(Cy P).2.2.2.2.1) ::
 (nat_lit 239,(Cy P).2.2.2.2.2.1) ::
 (nat_lit 240,(Cy P).2.2.2.2.2.2.1) ::
 (nat_lit 246,(Cy P).2.2.2.2.2.2.2) ::
 (nat_lit 247,(Cz P).1) ::
 (nat_lit 253,(Cz P).2.1) ::
 (nat_lit 254,(Cz P).2.2.1) ::
 (nat_lit 258,(Cz P).2.2.2.1) ::
 (nat_lit 259,(Cz P).2.2.2.2.1) ::
 (nat_lit 265,(Cz P).2.2.2.2.2.1) ::
 (nat_lit 266,(Cz P).2.2.2.2.2.2.1) ::
 (nat_lit 270,(Cz P).2.2.2.2.2.2.2) ::
 (nat_lit 271,(Eb P).1) ::
 (nat_lit 282,(Eb P).2.1) ::
 (nat_lit 283,(Eb P).2.2.1) ::
 (nat_lit 292,(Eb P).2.2.2.1) ::
 (nat_lit 293,(Eb P).2.2.2.2.1) ::
 (nat_lit 297,(Eb P).2.2.2.2.2.1) ::
 (nat_lit 298,(Eb P).2.2.2.2.2.2) ::
 []
end K05
noncomputable def PySem.W.Fast.tw12642048133339726799 : PySem.Program := PySem.Challenge.pw_haltline_k05_whole_no_earlier_table
theorem PySem.W.Fast.te12642048133339726799 : PySem.Challenge.pw_haltline_k05_whole_no_earlier_table = PySem.W.Fast.tw12642048133339726799 := rfl
noncomputable def PySem.W.Fast.tw9237107248124952875 : PySem.Params → PySem.W.Frag := K05.KK
theorem PySem.W.Fast.te9237107248124952875 : K05.KK = PySem.W.Fast.tw9237107248124952875 := rfl
noncomputable def K05.vq : PySem.Program := { (PySem.Challenge.rw_haltline_k05_whole_no_earlier_table.row.toRowW).1 with main := { (PySem.Challenge.rw_haltline_k05_whole_no_earlier_table.row.toRowW).1.main with body := ([1, 2, 3, 4, 5, 7, 8, 9, 10, 11, 12, 13, 14, 15, 16, 18, 19, 20, 21, 22, 23, 25, 26, 27, 28, 30, 31, 32, 33, 34, 35, 36, 37, 38, 40, 41, 42, 43, 44, 45, 46, 47, 48] : List Nat).map fun i => PySem.Challenge.pw_haltline_k05_whole_no_earlier_table.main.body.getD i (.Pass ⟨0, 0, 0, 0⟩) } }
noncomputable def PySem.W.Fast.tw8355927007211432675 : PySem.Program := K05.vq
theorem PySem.W.Fast.te8355927007211432675 : K05.vq = PySem.W.Fast.tw8355927007211432675 := rfl
noncomputable def K05.sq (a n : Nat) : List PySem.Stmt := (PySem.Challenge.pw_haltline_k05_whole_no_earlier_table.main.body.drop a).take n
noncomputable def PySem.W.Fast.tw8966092356495069151 : List PySem.Stmt := (K05.sq 0 2)
theorem PySem.W.Fast.te8966092356495069151 : (K05.sq 0 2) = PySem.W.Fast.tw8966092356495069151 := rfl
noncomputable def PySem.W.Fast.tw11465028906362613262 : List PySem.Stmt := (K05.sq 2 1)
theorem PySem.W.Fast.te11465028906362613262 : (K05.sq 2 1) = PySem.W.Fast.tw11465028906362613262 := rfl
noncomputable def PySem.W.Fast.tw17030474699556613405 : List PySem.Stmt := (K05.sq 3 1)
theorem PySem.W.Fast.te17030474699556613405 : (K05.sq 3 1) = PySem.W.Fast.tw17030474699556613405 := rfl
noncomputable def PySem.W.Fast.tw15311727979649908375 : List PySem.Stmt := (K05.sq 4 1)
theorem PySem.W.Fast.te15311727979649908375 : (K05.sq 4 1) = PySem.W.Fast.tw15311727979649908375 := rfl
noncomputable def PySem.W.Fast.tw17240148956907324011 : List PySem.Stmt := (K05.sq 5 7)
theorem PySem.W.Fast.te17240148956907324011 : (K05.sq 5 7) = PySem.W.Fast.tw17240148956907324011 := rfl
noncomputable def PySem.W.Fast.tw17329232010528401780 : List PySem.Stmt := (K05.sq 12 4)
theorem PySem.W.Fast.te17329232010528401780 : (K05.sq 12 4) = PySem.W.Fast.tw17329232010528401780 := rfl
noncomputable def PySem.W.Fast.tw8218591541161561029 : List PySem.Stmt := (K05.sq 16 16)
theorem PySem.W.Fast.te8218591541161561029 : (K05.sq 16 16) = PySem.W.Fast.tw8218591541161561029 := rfl
noncomputable def PySem.W.Fast.tw7543545646356048974 : List PySem.Stmt := (K05.sq 32 13)
theorem PySem.W.Fast.te7543545646356048974 : (K05.sq 32 13) = PySem.W.Fast.tw7543545646356048974 := rfl
noncomputable def PySem.W.Fast.tw5154475811070637546 : List PySem.Stmt := (K05.sq 45 4)
theorem PySem.W.Fast.te5154475811070637546 : (K05.sq 45 4) = PySem.W.Fast.tw5154475811070637546 := rfl
open PySem PySem.W PyProof.Rows
set_option maxRecDepth 100000 in
set_option maxHeartbeats 0 in
theorem PySem.Challenge.cw_haltline_k05_whole_no_earlier_table_holds : PySem.Challenge.rw_haltline_k05_whole_no_earlier_table.Holds := by
 w_on; o_law; (o_head (kHook K05.KK (3 :: 23 :: 24 :: 36 :: 37 :: 48 :: 49 :: 60 :: 61 :: 72 :: 73 :: 88 :: 89 :: 95 :: 96 :: 102 :: 103 :: 105 :: 106 :: 116 :: 117 :: 123 :: 124 :: 130 :: 131 :: 135 :: 136 :: 142 :: 143 :: 147 :: 148 :: 154 :: 155 :: 159 :: 160 :: 164 :: 165 :: 169 :: 170 :: 176 :: 177 :: 181 :: 182 :: 186 :: 187 :: 191 :: 192 :: 198 :: 199 :: 203 :: 204 :: 208 :: 209 :: 215 :: 216 :: 220 :: 221 :: 227 :: 228 :: 234 :: 235 :: 239 :: 240 :: 246 :: 247 :: 253 :: 254 :: 258 :: 259 :: 265 :: 266 :: 270 :: 271 :: 282 :: 283 :: 292 :: 293 :: 297 :: 298 :: []) (fun _=>by kernel_rfl))); (case hw=>w_witness2)
 k_fill
 refine L2.yO 8 (l:=PySem.Challenge.rw_haltline_k05_whole_no_earlier_table) ⟨rfl,by decide,by decide⟩ rfl rfl (fun w h Y=>PySem.W.kIn_of Y) ?F
 case F=>
  intro w mg fa h KX G hmg
  refine' K05.CU KX G hmg ?_ ?_ ?_ ?_ ?_ ?_ ?_ ?_ ?_ ?_ ?_ ?_ ?_ ?_ ?_ ?_ ?_ ?_ ?_ ?_ ?_ ?_ ?_ ?_ ?_ ?_ ?_ ?_ ?_ ?_ ?_ ?_ ?_ ?_ ?_ ?_ ?_ ?_ ?_ ?_ ?_ ?_ ?_ ?_ ?_ ?_ ?_ ?_ ?_ ?_ ?_ ?_ ?_ ?_ ?_ ?_
  all_goals first | k_is | exact ⟨_,by k_is,_,_,_,by k_is,by k_is⟩ | exact ⟨_,_,_,_,_,_,_,_,_,_,_,_,_,_,_,_,by k_is,by kernel_rfl,by k_is,by kernel_rfl⟩ | rfl | k_exc | decide | skip
#print axioms PySem.Challenge.cw_haltline_k05_whole_no_earlier_table_holds
